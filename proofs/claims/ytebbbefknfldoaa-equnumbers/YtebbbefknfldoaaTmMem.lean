/- Terms in memory. -/
import Derived.Test.YtebbbefknfldoaaRows
import Derived.WalkKit
import Derived.ProofKit
import Derived.OpenShut
import Derived.ShutString
import Derived.ChangeOld
import Derived.Below
import Derived.WalkMore
import Derived.ScopeJumps
import Derived.Lib.Bytealg
import Derived.Lib.IndexAny
import Derived.Lib.Strings
import Derived.Lib.Walk
import Derived.Lib.BufferWrite
import Derived.Lib.UnsafeStr
import Derived.Lib.Hide
import Derived.Laws.MakeOwn
import Derived.Deep.DeepAppendWide
import Derived.Deep.DeepMust
import Derived.Laws.Strings3
import Derived.Handy
/- A scope whose run jumps among many labels: what it is to go on from a label ('Lands'), one law a jump, one for the scope; proofs by plain induction. -/
namespace Go.Proofs.Ytebbbefknfldoaa
open Go.ChangeShapes Go.WideShapes Go.ChangeAt Go.RowKit
set_option linter.unusedVariables false
set_option maxRecDepth 100000
def Lands (P : Program) (c : Code) (Q : Exit → Act → World → Prop) (l : Nat) (a : Act) (w : World) : Prop :=
  ∃ rest, findLabel c l = some rest ∧ ∀ (b : Frame) (k : List Item) (cs : List Frame),
    ∃ e a' w', Q e a' w' ∧ Arrives P (lone (b.at a (.code rest :: .inScope c :: k)) cs w) b k cs e a' w'
def jumps (J : Nat → Act → World → Prop) (Q : Exit → Act → World → Prop) : Exit → Act → World → Prop
  | .goto l, a, w => J l a w
  | e, a, w => Q e a w
section
variable {P : Program} {Q : Exit → Act → World → Prop} {a : Act} {w : World} {J : Nat → Act → World → Prop}
theorem arrives_scope {c rest : Code} (h : rest.wp P (jumps (Lands P c Q) Q) a w) (b : Frame) (k : List Item) (cs : List Frame) :
    ∃ e a' w', Q e a' w' ∧ Arrives P (lone (b.at a (.code rest :: .inScope c :: k)) cs w) b k cs e a' w' := by
  obtain ⟨e, a₁, w₁, hq, harr⟩ := h b (.inScope c :: k) cs
  cases e with
  | normal => exact ⟨.normal, a₁, w₁, hq, Steps.trans harr (.one step_inScope)⟩
  | exit id => exact ⟨.exit id, a₁, w₁, hq, fun k' hk => harr k' (by simp [exitTo, hk])⟩
  | goto l =>
    obtain ⟨rest', hf, hrest⟩ := hq
    obtain ⟨e₂, a₂, w₂, hq₂, harr₂⟩ := hrest b k cs
    have hg : gotoIn l (.inScope c :: k) = some (.code rest' :: .inScope c :: k) := by simp [gotoIn, hf]
    exact ⟨e₂, a₂, w₂, hq₂, .of_steps (harr _ hg) harr₂⟩
  | ret => exact ⟨_, a₁, w₁, hq, harr⟩
  | panic ch => exact ⟨_, a₁, w₁, hq, harr⟩
  | outgrown => exact ⟨_, a₁, w₁, hq, harr⟩
theorem Lands.of {c rest : Code} {l : Nat} (hf : findLabel c l = some rest) (h : rest.wp P (jumps (Lands P c Q) Q) a w) : Lands P c Q l a w :=
  ⟨rest, hf, fun b k cs => arrives_scope h b k cs⟩
end
end Go.Proofs.Ytebbbefknfldoaa
/- Contracts of lex's small functions that only compute, and of the document's: kinds of bytes, a digit's number, the byte at a place. -/
namespace Go.Proofs.Ytebbbefknfldoaa
open Go.ChangeShapes Go.WideShapes Go.ChangeAt Go.RowKit
set_option linter.unusedVariables false
set_option maxRecDepth 100000
def isBl (c : Int) : Bool := c == 9 || c == 13 || c == 32
def isLet (c : Int) : Bool := decide (97 ≤ c ∧ c ≤ 122) || decide (65 ≤ c ∧ c ≤ 90) || c == 95
def isDig (c : Int) : Bool := decide (48 ≤ c ∧ c ≤ 57)
def inW (c : Int) : Bool := isLet c || isDig c
def isHex (c : Int) : Bool := isDig c || decide (97 ≤ c ∧ c ≤ 102)
def isQuo (c : Int) : Bool := decide (32 ≤ c ∧ c ≤ 126) && c != 39
def isSg (c : Int) : Bool := c == 58 || c == 44 || c == 40 || c == 41 || c == 43 || c == 45 || c == 42 || c == 61
def digI (c : Int) : Int := if 48 ≤ c ∧ c ≤ 57 then c - 48 else c - 97 + 10
def bs (s : ByteArray) : List UInt8 := s.data.toList
def atI (l : List UInt8) (k : Nat) : Int := ((l.getD k 0).toNat : Int)
end Go.Proofs.Ytebbbefknfldoaa
/- What a number, a token and the tokens of a text are, as functions on its bytes. -/
namespace Go.Proofs.Ytebbbefknfldoaa
set_option linter.unusedVariables false
set_option maxRecDepth 100000
def lenW (p : Int → Bool) (r : List UInt8) : Nat := (r.takeWhile fun b => p (b.toNat : Int)).length
def val (base : Int) (n : Int) (ds : List UInt8) : Int := ds.foldl (fun n b => base * n + digI (b.toNat : Int)) n
def hexLen (k : Nat) (r : List UInt8) : Nat := min k (lenW isHex r)
def numAt (r : List UInt8) : Option (Int × Nat) :=
  if atI r 0 = 39 then (if isQuo (atI r 1) = true ∧ atI r 2 = 39 then some (atI r 1, 3) else none)
  else if atI r 0 = 48 ∧ atI r 1 = 120 then
    (if hexLen 8 (r.drop 2) = 0 ∨ inW (atI r (2 + hexLen 8 (r.drop 2))) = true then none else some (val 16 0 ((r.drop 2).take (hexLen 8 (r.drop 2))), 2 + hexLen 8 (r.drop 2)))
  else if atI r 0 = 48 then (if inW (atI r 1) = true then none else some (0, 1))
  else (if 4294967295 < val 10 0 (r.take (lenW isDig r)) ∨ inW (atI r (lenW isDig r)) = true then none else some (val 10 0 (r.take (lenW isDig r)), lenW isDig r))
def numN (r : List UInt8) : Int := match numAt r with | some (n, _) => n | none => 0
def numL (r : List UInt8) : Nat := match numAt r with | some (_, k) => k | none => 0
def Res (N T : Int) (at_ : Nat) (bad : Prop) (v : Int) (k : Nat) : Prop := (bad → N = 0 ∧ T = (at_ : Int)) ∧ (¬ bad → N = v ∧ T = (k : Int))
theorem Res.bad {N T : Int} {at_ : Nat} {bad : Prop} {v : Int} {k : Nat} (h : Res N T at_ bad v k) (hb : bad) : N = 0 ∧ T = (at_ : Int) := h.1 hb
theorem Res.good {N T : Int} {at_ : Nat} {bad : Prop} {v : Int} {k : Nat} (h : Res N T at_ bad v k) (hb : ¬ bad) : N = v ∧ T = (k : Int) := h.2 hb
theorem Res.turn {N T : Int} {at_ : Nat} {bad bad' : Prop} {v v' : Int} {k k' : Nat} (h : Res N T at_ bad v k) (hb : bad' ↔ bad) (hv : v' = v) (hk : k' = k) : Res N T at_ bad' v' k' := by
  subst hv hk
  exact ⟨fun x => h.1 (hb.1 x), fun x => h.2 fun y => x (hb.2 y)⟩
structure Tok where
  kind : Int
  text : List UInt8
  num : Int
  place : Nat
def tokAt (r : List UInt8) : Option (Int × Int × Nat) :=
  if isLet (atI r 0) = true then (if lenW inW r ≤ 32 then some (1, 0, lenW inW r) else none)
  else if isDig (atI r 0) = true ∨ atI r 0 = 39 then
    (if numL r = 0 then none else some (2, numN r, numL r))
  else if isSg (atI r 0) = true then some (3, 0, 1)
  else none
def scan (r : List UInt8) (at_ : Nat) : Except Nat (List Tok) :=
  match r with
  | [] => .ok []
  | b :: r' =>
    if (b.toNat : Int) = 59 then .ok []
    else if isBl (b.toNat : Int) = true then scan r' (at_ + 1)
    else match tokAt (b :: r') with
      | none => .error at_
      | some (kind, n, k) =>
        match scan (r'.drop (k - 1)) (at_ + k) with
        | .ok ts => .ok ({ kind := kind, text := (b :: r').take k, num := n, place := at_ } :: ts)
        | .error p => .error p
  termination_by r.length
  decreasing_by all_goals simp; try omega
end Go.Proofs.Ytebbbefknfldoaa
/- The scan of a text, place by place. -/
namespace Go.Proofs.Ytebbbefknfldoaa
set_option linter.unusedVariables false
set_option maxRecDepth 100000
def ext (acc : List Tok) : Except Nat (List Tok) → Except Nat (List Tok)
  | .ok ts => .ok (acc ++ ts)
  | .error p => .error p
end Go.Proofs.Ytebbbefknfldoaa
/- strings.Clone: the same bytes, in new memory. -/
namespace Go.Proofs.Ytebbbefknfldoaa
open Go.ChangeShapes Go.WideShapes Go.ChangeAt Go.RowKit
set_option linter.unusedVariables false
theorem Try.info5 : (Try.prog.info? 5).map (fun i => (i.zero, i.size, i.bytes)) = some (some (.int .u8 0), 1, 1) := by kernel_rfl
set_option maxHeartbeats 4000000 in
set_option maxRecDepth 100000 in
theorem liteClone_any (s : ByteArray) (w : World) (hlim : s.size ≤ 281474976710656) :
    Calls Try.prog 45 #[.string s] w fun e w' => e = .returned (.string s) ∧ Below w.heap.size w w' := by
  by_cases h0 : s.size = 0
  · have hs : s = ⟨#[]⟩ := by
      apply ByteArray.ext
      exact Array.eq_empty_of_size_eq_zero h0
    subst hs
    go_enter Try.func45, Try.ntmps45
    go_wp2
    go_ret
    exact ⟨rfl, Below.refl _ _⟩
  · obtain ⟨i0, hi, hz0, hz1, hz2⟩ := info_parts Try.info5
    have hinfo : (Try.prog.info? 5).map (·.size) = some 1 := by rw [hi]; simp [hz1]
    have hco : Try.prog.cellsOf 5 = 1 := by simp [Program.cellsOf, hi, hz1]
    obtain ⟨M, hM⟩ : ∃ M, M = madeCells (Value.int .u8 0).cells (((s.size : Nat) : Int).toNat * i0.size) := ⟨_, rfl⟩
    have hMs : M.size = s.size := by rw [hM, size_madeCells, hz1]; simp
    have hmk : ∀ W : World, (Instr.makeSlice 102 (.int .i64 (s.size : Int)) (.int .i64 (s.size : Int))).run Try.prog W = .ok (.slice (some ⟨W.heap.size, 0, none⟩) s.size s.size) (W.alloc (.cells M 5)) := fun W => by
      have h := run_make (P := Try.prog) W 102 5 i0 (.int .u8 0) Try.underlying102 hi hz0 .i64 .i64 (s.size : Int) (s.size : Int) (by omega) (by omega) (by rw [hz2]; omega) (by omega)
      rw [← hM] at h
      simpa using h
    clear hM
    have hcp := Lib.run_copy_row_string (P := Try.prog) (w.alloc (.cells M 5)) 102 9 3 5 w.heap.size 0 s.size s.size s M 5 Try.underlying102 hinfo (heap_alloc_new w _) (Nat.le_refl _) (by omega)
    obtain ⟨Y, hY⟩ : ∃ Y, Y = (M.toList.take 0 ++ Lib.byteCells s.data.toList ++ M.toList.drop (0 + s.size)).toArray := ⟨_, rfl⟩
    rw [← hY] at hcp
    have hYl : Y.toList = Lib.byteCells s.data.toList := by
      rw [hY, List.toList_toArray, List.take_zero, List.nil_append, List.drop_of_length_le (by rw [Array.length_toList]; omega), List.append_nil]
    have hYs : Y.size = s.size := by rw [← Array.length_toList, hYl, Lib.byteCells_length, ← Lib.size_eq]
    have hgY : ((w.alloc (.cells M 5)).setRow w.heap.size Y).heap[w.heap.size]? = some (.cells Y 5 (0, 0)) := setRow_heap _ _ M _ 5 (0, 0) (heap_alloc_new w _)
    have hne : s.data.toList ≠ [] := fun e => h0 (by rw [Lib.size_eq, e]; rfl)
    have hUS := Lib.run_unsafeString_row (P := Try.prog) ((w.alloc (.cells M 5)).setRow w.heap.size Y) 103 3 9 5 Try.underlying103 hco w.heap.size Y.size (by unfold World.shape?; rw [hgY]) s.data.toList hne (by rw [← Lib.size_eq]; omega) (by rw [← Lib.size_eq]; omega)
      (fun j x hx => Lib.cells_of_row hgY Y.size j _ (by rw [List.take_of_length_le (by rw [Array.length_toList]; exact Nat.le_refl _), hYl]; simp [Lib.byteCells, hx]))
    rw [← Lib.size_eq] at hUS
    clear hY
    go_enter Try.func45, Try.ntmps45
    go_wp2
    go_ret
    have hb1 : Below w.heap.size w (w.alloc (.cells M 5)) := (Below.refl _ w).alloc (Nat.le_refl _) _
    have hb2 : Below w.heap.size (w.alloc (.cells M 5)) ((w.alloc (.cells M 5)).setRow w.heap.size Y) := ⟨rfl, rfl, rfl, by simp, fun k hk => setRow_other _ _ _ _ (by omega)⟩
    exact ⟨rfl, Lib.below_freeze (hb1.trans hb2) (p := ⟨w.heap.size, 0, none⟩) (Nat.le_refl _) _⟩
theorem clone_any (s : ByteArray) (w : World) (hlim : s.size ≤ 281474976710656) :
    Calls Try.prog 29 #[.string s] w fun e w' => e = .returned (.string s) ∧ Below w.heap.size w w' := by
  go_enter Try.func29, Try.ntmps29
  go_wp2_with (go_at_call 45; refine (liteClone_any _ _ hlim).mono ?_; rintro e w' ⟨rfl, hb⟩)
  go_ret
  exact ⟨rfl, hb⟩
end Go.Proofs.Ytebbbefknfldoaa
/- lex.numberAt: the number at a place, and the place behind it. -/
namespace Go.Proofs.Ytebbbefknfldoaa
open Go.ChangeShapes Go.WideShapes Go.ChangeAt Go.RowKit
set_option linter.unusedVariables false
set_option maxRecDepth 100000
theorem Hid.intro {p : Prop} (h : p) : Hid p := h
end Go.Proofs.Ytebbbefknfldoaa
/- lex.Tokens: the tokens of a text. -/
namespace Go.Proofs.Ytebbbefknfldoaa
open Go.ChangeShapes Go.WideShapes Go.ChangeAt Go.RowKit
set_option linter.unusedVariables false
set_option maxRecDepth 100000
def str (l : List UInt8) : ByteArray := ⟨l.toArray⟩
def Tok.cells (t : Tok) : List Value := [.int .i64 t.kind, .string (str t.text), .int .u32 t.num, .int .i64 (t.place : Int)]
theorem cells_new (w : World) (cs : Array Value) (T : TypeId) : ∀ j u, cs.toList[j]? = some u → (w.alloc (.cells cs T)).cell? ((⟨w.heap.size, 0, none⟩ : Addr).add j) = some u := by
  intro j u h
  refine Lib.cells_of_row (heap_alloc_new w _) cs.size j u ?_
  rw [List.take_of_length_le (by simp)]
  exact h
end Go.Proofs.Ytebbbefknfldoaa
/- lex.Tokens: the tokens of a text: the contract. -/
namespace Go.Proofs.Ytebbbefknfldoaa
open Go.ChangeShapes Go.WideShapes Go.ChangeAt Go.RowKit
set_option linter.unusedVariables false
set_option maxRecDepth 100000
theorem Lands.tail {P : Program} {c : Code} {l : Nat} {X : Code} {Q : Exit → Act → World → Prop} {a : Act} {w : World} (hX : findLabel c l = some (.seq .skip X)) (h : X.wp P (jumps (Lands P c Q) Q) a w) : Lands P c Q l a w :=
  Lands.of hX (wp_seq (wp_skip h))
end Go.Proofs.Ytebbbefknfldoaa
/- The tokens in memory, as a reader meets them; few. -/
namespace Go.Proofs.Ytebbbefknfldoaa
open Go.ChangeShapes Go.WideShapes Go.ChangeAt Go.RowKit
set_option linter.unusedVariables false
set_option maxRecDepth 100000
structure TokAt (w : World) (g i : Nat) (t : Tok) : Prop where
  kind : w.cell? ⟨g, i * 4, none⟩ = some (.int .i64 t.kind)
  text : w.cell? ⟨g, i * 4 + 1, none⟩ = some (.string (str t.text))
  num : w.cell? ⟨g, i * 4 + 2, none⟩ = some (.int .u32 t.num)
  place : w.cell? ⟨g, i * 4 + 3, none⟩ = some (.int .i64 (t.place : Int))
theorem TokAt.below {w w' : World} {g i : Nat} {t : Tok} {B : Nat} (h : TokAt w g i t) (hb : Below B w w') (hg : g < B) : TokAt w' g i t :=
  ⟨by rw [hb.cell (p := ⟨g, i * 4, none⟩) hg]; exact h.kind, by rw [hb.cell (p := ⟨g, i * 4 + 1, none⟩) hg]; exact h.text, by rw [hb.cell (p := ⟨g, i * 4 + 2, none⟩) hg]; exact h.num, by rw [hb.cell (p := ⟨g, i * 4 + 3, none⟩) hg]; exact h.place⟩
theorem str_toList (l : List UInt8) : (str l).toList = l := by
  rw [Lib.toList_data]
  rfl
end Go.Proofs.Ytebbbefknfldoaa
/- Lins as lists of terms: their coefficients, the one list that has given coefficients, sums and products. -/
namespace Go.Proofs.Ytebbbefknfldoaa
set_option linter.unusedVariables false
structure Tm where
  name : List UInt8
  coef : Int
deriving DecidableEq
def nlt (a b : List UInt8) : Bool := Op.bytesLess a b
theorem nlt_nil (a : List UInt8) : nlt a [] = false := by cases a <;> rfl
theorem nlt_cons (a b : UInt8) (x y : List UInt8) : nlt (a :: x) (b :: y) = (decide (a < b) || (a == b && nlt x y)) := rfl
theorem u8_lt_irrefl (a : UInt8) : ¬ a < a := by rw [UInt8.lt_iff_toNat_lt]; omega
theorem u8_trans {a b c : UInt8} (h : a < b) (h2 : b < c) : a < c := by rw [UInt8.lt_iff_toNat_lt] at *; omega
theorem u8_tri (a b : UInt8) : a < b ∨ a = b ∨ b < a := by
  rw [UInt8.lt_iff_toNat_lt, UInt8.lt_iff_toNat_lt, ← UInt8.toNat_inj]
  omega
theorem nlt_irrefl (a : List UInt8) : nlt a a = false := by
  induction a with
  | nil => rfl
  | cons a x ih => rw [nlt_cons, ih]; simp
theorem nlt_trans {a b c : List UInt8} (h : nlt a b = true) (h2 : nlt b c = true) : nlt a c = true := by
  induction a generalizing b c with
  | nil =>
    cases c with
    | nil => rw [nlt_nil] at h2; cases h2
    | cons c z => rfl
  | cons a x ih =>
    cases b with
    | nil => rw [nlt_nil] at h; cases h
    | cons b y =>
      cases c with
      | nil => rw [nlt_nil] at h2; cases h2
      | cons c z =>
        rw [nlt_cons] at *
        simp only [Bool.or_eq_true, decide_eq_true_eq, Bool.and_eq_true, beq_iff_eq] at *
        rcases h with h | ⟨h, h'⟩
        · rcases h2 with h2 | ⟨h2, h2'⟩
          · exact .inl (u8_trans h h2)
          · subst h2; exact .inl h
        · subst h
          rcases h2 with h2 | ⟨h2, h2'⟩
          · exact .inl h2
          · exact .inr ⟨h2, ih h' h2'⟩
theorem nlt_tri (a b : List UInt8) : nlt a b = true ∨ a = b ∨ nlt b a = true := by
  induction a generalizing b with
  | nil => cases b with
    | nil => exact .inr (.inl rfl)
    | cons => exact .inl rfl
  | cons a x ih => cases b with
    | nil => exact .inr (.inr rfl)
    | cons b y =>
      rw [nlt_cons, nlt_cons]
      rcases u8_tri a b with h | h | h
      · exact .inl (by simp [h])
      · subst h
        rcases ih y with h | h | h
        · exact .inl (by simp [h])
        · exact .inr (.inl (by rw [h]))
        · exact .inr (.inr (by simp [h]))
      · exact .inr (.inr (by simp [h]))
theorem nlt_asymm {a b : List UInt8} (h : nlt a b = true) : nlt b a = false := by
  cases h2 : nlt b a
  · rfl
  · have := nlt_trans h h2; rw [nlt_irrefl] at this; cases this
theorem nlt_ne {a b : List UInt8} (h : nlt a b = true) : a ≠ b := by
  intro e; subst e; rw [nlt_irrefl] at h; cases h
theorem compare_nlt (a b : List UInt8) : decide (Lib.compareBytes a b < 0) = nlt a b := by
  induction a generalizing b with
  | nil => cases b <;> rfl
  | cons a x ih => cases b with
    | nil => rfl
    | cons b y =>
      rw [nlt_cons, Lib.compareBytes]
      rcases u8_tri a b with h | h | h
      · simp [h]
      · subst h
        simp only [u8_lt_irrefl, if_false]
        rw [ih]
        simp
      · have h1 : ¬ a < b := fun e => u8_lt_irrefl _ (u8_trans e h)
        have h2 : ¬ a = b := fun e => by subst e; exact u8_lt_irrefl _ h
        simp [h, h1, h2]
def cfOf (n : List UInt8) : List Tm → Int
  | [] => 0
  | t :: r => (if t.name = n then t.coef else 0) + cfOf n r
theorem cfOf_append (n : List UInt8) (a b : List Tm) : cfOf n (a ++ b) = cfOf n a + cfOf n b := by
  induction a with
  | nil => simp [cfOf]
  | cons x a ih => simp [cfOf, ih]; omega
theorem cfOf_perm (n : List UInt8) {a b : List Tm} (h : a.Perm b) : cfOf n a = cfOf n b := by
  induction h with
  | nil => rfl
  | cons x _ ih => simp [cfOf, ih]
  | swap x y l => simp [cfOf]; omega
  | trans _ _ h1 h2 => rw [h1, h2]
theorem cfOf_none (n : List UInt8) (l : List Tm) (h : ∀ t ∈ l, t.name ≠ n) : cfOf n l = 0 := by
  induction l with
  | nil => rfl
  | cons x l ih =>
    have h1 : x.name ≠ n := h x (by simp)
    simp [cfOf, h1]
    exact ih fun t ht => h t (by simp [ht])
structure Canon (l : List Tm) : Prop where
  rise : l.Pairwise (fun a b => nlt a.name b.name = true)
  some : ∀ t ∈ l, 0 < t.coef ∧ t.coef < 4294967296
theorem Canon.nil : Canon [] := ⟨List.Pairwise.nil, fun _ h => by cases h⟩
theorem Canon.tail {t : Tm} {l : List Tm} (h : Canon (t :: l)) : Canon l := ⟨(List.pairwise_cons.1 h.rise).2, fun x hx => h.some x (by simp [hx])⟩
theorem Canon.head {t : Tm} {l : List Tm} (h : Canon (t :: l)) : ∀ x ∈ l, nlt t.name x.name = true := (List.pairwise_cons.1 h.rise).1
theorem Canon.cf_head {t : Tm} {l : List Tm} (h : Canon (t :: l)) : cfOf t.name l = 0 :=
  cfOf_none _ _ fun x hx e => by have := h.head x hx; rw [e, nlt_irrefl] at this; cases this
theorem canon_first {x y : Tm} {a b : List Tm} (ha : Canon (x :: a)) (hb : Canon (y :: b)) (h : ∀ n, cfOf n (x :: a) % 4294967296 = cfOf n (y :: b) % 4294967296) : ¬ nlt x.name y.name = true := by
  intro hlt
  have h1 := h x.name
  have h2 : cfOf x.name (y :: b) = 0 := cfOf_none _ _ fun t ht e => by
    have : nlt x.name t.name = true := by
      rcases List.mem_cons.1 ht with rfl | ht
      · exact hlt
      · exact nlt_trans hlt (hb.head t ht)
    rw [e, nlt_irrefl] at this
    cases this
  have h3 := ha.cf_head
  have h4 := ha.some x (by simp)
  rw [h2] at h1
  simp only [cfOf, if_true] at h1
  rw [h3] at h1
  omega
theorem canon_unique : ∀ {a b : List Tm}, Canon a → Canon b → (∀ n, cfOf n a % 4294967296 = cfOf n b % 4294967296) → a = b
  | [], [], _, _, _ => rfl
  | [], y :: b, _, hb, h => by
    have h1 := h y.name
    have h3 := hb.cf_head
    have h4 := hb.some y (by simp)
    simp only [cfOf, if_true] at h1
    rw [h3] at h1
    omega
  | x :: a, [], ha, _, h => by
    have h1 := h x.name
    have h3 := ha.cf_head
    have h4 := ha.some x (by simp)
    simp only [cfOf, if_true] at h1
    rw [h3] at h1
    omega
  | x :: a, y :: b, ha, hb, h => by
    have he : x.name = y.name := by
      rcases nlt_tri x.name y.name with h1 | h1 | h1
      · exact absurd h1 (canon_first ha hb h)
      · exact h1
      · exact absurd h1 (canon_first hb ha fun n => (h n).symm)
    have hc : x.coef = y.coef := by
      have h1 := h x.name
      have h3 := ha.cf_head
      have h3' := hb.cf_head
      have h4 := ha.some x (by simp)
      have h4' := hb.some y (by simp)
      simp only [cfOf, if_true, he] at h1
      rw [← he, h3, he, h3'] at h1
      omega
    have hxy : x = y := by cases x; cases y; simp_all
    subst hxy
    have : a = b := canon_unique ha.tail hb.tail fun n => by
      have h1 := h n
      simp only [cfOf] at h1
      by_cases hn : x.name = n
      · rw [← hn, ha.cf_head, hb.cf_head]
      · rw [if_neg hn] at h1
        omega
    rw [this]
def emit (n : List UInt8) (c : Int) (l : List Tm) : List Tm := if c = 0 then l else ⟨n, c⟩ :: l
def gat (n : List UInt8) (c : Int) : List Tm → List Tm
  | [] => emit n c []
  | t :: r => if t.name = n then gat n ((c + t.coef) % 4294967296) r else emit n c (gat t.name ((0 + t.coef) % 4294967296) r)
def gather : List Tm → List Tm
  | [] => []
  | t :: r => gat t.name ((0 + t.coef) % 4294967296) r
theorem gather_gat (t : Tm) (r : List Tm) : gather (t :: r) = gat t.name 0 (t :: r) := by simp [gather, gat]
theorem gat_other (n : List UInt8) (c : Int) (t : Tm) (r : List Tm) (h : t.name ≠ n) : gat n c (t :: r) = emit n c (gather (t :: r)) := by rw [gat, if_neg h]; rfl
theorem gat_same (n : List UInt8) (c : Int) (t : Tm) (r : List Tm) (h : t.name = n) : gat n c (t :: r) = gat n ((c + t.coef) % 4294967296) r := by rw [gat, if_pos h]
def Sorted (l : List Tm) : Prop := l.Pairwise (fun a b => nlt b.name a.name = false)
theorem cf_emit (m n : List UInt8) (c : Int) (l : List Tm) : cfOf m (emit n c l) = (if n = m then c else 0) + cfOf m l := by
  unfold emit
  split
  · rename_i h; subst h; split <;> simp
  · rfl
theorem cf_gat (m n : List UInt8) (c : Int) (l : List Tm) : cfOf m (gat n c l) % 4294967296 = ((if n = m then c else 0) + cfOf m l) % 4294967296 := by
  induction l generalizing n c with
  | nil => rw [gat, cf_emit]
  | cons t r ih =>
    by_cases h : t.name = n
    · rw [gat_same n c t r h, ih]
      simp only [cfOf, h]
      split
      · omega
      · omega
    · rw [gat, if_neg h, cf_emit]
      have := ih t.name ((0 + t.coef) % 4294967296)
      simp only [cfOf]
      generalize cfOf m (gat t.name ((0 + t.coef) % 4294967296) r) = X at this ⊢
      generalize cfOf m r = Y at this ⊢
      skip
      split at this <;> split <;> rename_i h1 <;> (try simp only [h1] at *) <;> (try simp at *) <;> omega
theorem cf_gather (m : List UInt8) (l : List Tm) : cfOf m (gather l) % 4294967296 = cfOf m l % 4294967296 := by
  cases l with
  | nil => rfl
  | cons t r => rw [gather_gat, cf_gat]; simp
theorem canon_emit {n : List UInt8} {c : Int} {l : List Tm} (hc : 0 ≤ c ∧ c < 4294967296) (h : Canon l) (hn : ∀ t ∈ l, nlt n t.name = true) : Canon (emit n c l) := by
  unfold emit
  split
  · exact h
  · refine ⟨List.pairwise_cons.2 ⟨hn, h.rise⟩, fun t ht => ?_⟩
    rcases List.mem_cons.1 ht with rfl | ht
    · show 0 < c ∧ c < 4294967296
      omega
    · exact h.some t ht
theorem mem_emit {n : List UInt8} {c : Int} {l : List Tm} {t : Tm} (h : t ∈ emit n c l) : t.name = n ∨ t ∈ l := by
  unfold emit at h
  split at h
  · exact .inr h
  · rcases List.mem_cons.1 h with rfl | h
    · exact .inl rfl
    · exact .inr h
theorem mem_gat {n : List UInt8} {c : Int} {l : List Tm} {t : Tm} (h : t ∈ gat n c l) : t.name = n ∨ ∃ x ∈ l, x.name = t.name := by
  induction l generalizing n c with
  | nil => rw [gat] at h; rcases mem_emit h with h | h
           · exact .inl h
           · cases h
  | cons x r ih =>
    rw [gat] at h
    split at h
    · rcases ih h with h | ⟨y, hy, hn⟩
      · exact .inl h
      · exact .inr ⟨y, by simp [hy], hn⟩
    · rcases mem_emit h with h | h
      · exact .inl h
      · rcases ih h with h | ⟨y, hy, hn⟩
        · exact .inr ⟨x, by simp, h.symm⟩
        · exact .inr ⟨y, by simp [hy], hn⟩
theorem canon_gat {n : List UInt8} {c : Int} {l : List Tm} (hc : 0 ≤ c ∧ c < 4294967296) (h : Sorted l) (hn : ∀ t ∈ l, nlt t.name n = false) : Canon (gat n c l) := by
  induction l generalizing n c with
  | nil => rw [gat]; exact canon_emit hc Canon.nil (fun _ h => by cases h)
  | cons x r ih =>
    have hx := List.pairwise_cons.1 h
    rw [gat]
    split
    · exact ih (by omega) hx.2 fun t ht => hn t (by simp [ht])
    · rename_i hne
      have hlt : nlt n x.name = true := by
        rcases nlt_tri n x.name with h1 | h1 | h1
        · exact h1
        · exact absurd h1.symm hne
        · rw [hn x (by simp)] at h1; cases h1
      refine canon_emit hc (ih (by omega) hx.2 hx.1) fun t ht => ?_
      rcases mem_gat ht with h1 | ⟨y, hy, h1⟩
      · rw [h1]; exact hlt
      · rw [← h1]
        rcases nlt_tri x.name y.name with h2 | h2 | h2
        · exact nlt_trans hlt h2
        · rw [← h2]; exact hlt
        · rw [hx.1 y hy] at h2; cases h2
theorem canon_gather {l : List Tm} (h : Sorted l) : Canon (gather l) := by
  cases l with
  | nil => exact Canon.nil
  | cons t r =>
    have hx := List.pairwise_cons.1 h
    exact canon_gat (by omega) hx.2 hx.1
def leT (a b : Tm) : Bool := !nlt b.name a.name
theorem leT_trans (a b c : Tm) (h1 : leT a b = true) (h2 : leT b c = true) : leT a c = true := by
  simp only [leT, Bool.not_eq_true'] at *
  cases h : nlt c.name a.name
  · rfl
  · rcases nlt_tri b.name a.name with h3 | h3 | h3
    · rw [h1] at h3; cases h3
    · rw [← h3, h2] at h; cases h
    · rw [nlt_trans h h3] at h2; cases h2
theorem leT_total (a b : Tm) : (leT a b || leT b a) = true := by
  simp only [leT]
  cases h : nlt b.name a.name
  · rfl
  · rw [nlt_asymm h]; rfl
def norm (l : List Tm) : List Tm := gather (l.mergeSort leT)
theorem sorted_mergeSort (l : List Tm) : Sorted (l.mergeSort leT) := by
  have := List.pairwise_mergeSort (le := leT) (fun a b c => leT_trans a b c) (fun a b => leT_total a b) l
  exact this.imp fun h => by simpa [leT] using h
theorem canon_norm (l : List Tm) : Canon (norm l) := canon_gather (sorted_mergeSort l)
theorem cf_norm (n : List UInt8) (l : List Tm) : cfOf n (norm l) % 4294967296 = cfOf n l % 4294967296 := by
  rw [norm, cf_gather, cfOf_perm n (List.mergeSort_perm l leT)]
theorem norm_eq {a l : List Tm} (ha : Canon a) (h : ∀ n, cfOf n a % 4294967296 = cfOf n l % 4294967296) : norm l = a :=
  canon_unique (canon_norm l) ha fun n => by rw [cf_norm, h]
theorem norm_canon {a : List Tm} (ha : Canon a) : norm a = a := norm_eq ha fun _ => rfl
theorem gather_sorted {l l' : List Tm} (hp : l.Perm l') (hs : Sorted l') : gather l' = norm l :=
  (norm_eq (canon_gather hs) fun n => by rw [cf_gather, cfOf_perm n hp]).symm
def timesT (l : List Tm) (n : Int) : List Tm := (l.map fun t => ⟨t.name, t.coef * n % 4294967296⟩).filter fun t => decide (t.coef ≠ 0)
theorem timesT_nil (n : Int) : timesT [] n = [] := rfl
theorem timesT_cons (t : Tm) (l : List Tm) (n : Int) : timesT (t :: l) n = emit t.name (t.coef * n % 4294967296) (timesT l n) := by
  simp only [timesT, List.map_cons, List.filter_cons, emit]
  by_cases h : t.coef * n % 4294967296 = 0 <;> simp [h]
theorem timesT_append (a b : List Tm) (n : Int) : timesT (a ++ b) n = timesT a n ++ timesT b n := by simp [timesT]
theorem mem_timesT {l : List Tm} {n : Int} {t : Tm} (h : t ∈ timesT l n) : 0 < t.coef ∧ t.coef < 4294967296 ∧ ∃ x ∈ l, x.name = t.name := by
  simp only [timesT, List.mem_filter, List.mem_map] at h
  obtain ⟨⟨x, hx, rfl⟩, h⟩ := h
  simp only [ne_eq, decide_not, Bool.not_eq_true', decide_eq_false_iff_not] at *
  refine ⟨by omega, by omega, x, hx, rfl⟩
theorem canon_times {l : List Tm} (h : Canon l) (n : Int) : Canon (timesT l n) := by
  induction l with
  | nil => exact Canon.nil
  | cons t l ih =>
    rw [timesT_cons]
    refine canon_emit (by omega) (ih h.tail) fun x hx => ?_
    obtain ⟨_, _, y, hy, e⟩ := mem_timesT hx
    rw [← e]
    exact h.head y hy
def addT (a b : List Tm) : List Tm := norm (a ++ b)
theorem canon_add (a b : List Tm) : Canon (addT a b) := canon_norm _
theorem cf_add (n : List UInt8) (a b : List Tm) : cfOf n (addT a b) % 4294967296 = (cfOf n a + cfOf n b) % 4294967296 := by rw [addT, cf_norm, cfOf_append]
theorem emit_len (n : List UInt8) (c : Int) (l : List Tm) : (emit n c l).length ≤ l.length + 1 := by
  unfold emit
  split <;> simp
theorem times_len (l : List Tm) (n : Int) : (timesT l n).length ≤ l.length := by
  induction l with
  | nil => exact Nat.le_refl _
  | cons t l ih =>
    rw [timesT_cons]
    have := emit_len t.name (t.coef * n % 4294967296) (timesT l n)
    simp
    omega
end Go.Proofs.Ytebbbefknfldoaa
/- What an expression is, as a function on its tokens. -/
namespace Go.Proofs.Ytebbbefknfldoaa
set_option linter.unusedVariables false
structure Lin where
  terms : List Tm
  const : Int
abbrev PRes := Except Int (Lin × List Tok)
structure GoodL (x : Lin) : Prop where
  canon : Canon x.terms
  lo : 0 ≤ x.const
  hi : x.const < 4294967296
structure Fine (W : List Tok → PRes) : Prop where
  len : ∀ ts x r, W ts = .ok (x, r) → x.terms.length + r.length ≤ ts.length
  good : ∀ ts x r, W ts = .ok (x, r) → GoodL x
  err : ∀ ts e, W ts = .error e → e = 20 ∨ e = 21
end Go.Proofs.Ytebbbefknfldoaa
namespace Go.Proofs.Ytebbbefknfldoaa
open Go.ChangeShapes Go.WideShapes Go.ChangeAt Go.RowKit
set_option linter.unusedVariables false
set_option maxRecDepth 100000
def Tm.cells (t : Tm) : List Value := [.string (str t.name), .int .u32 t.coef]
def rowT (ts : List Tm) : List Value := ts.flatMap Tm.cells
theorem rowT_push (acc : List Tm) (t : Tm) : rowT (acc ++ [t]) = rowT acc ++ t.cells := by simp [rowT]
theorem rowT_append (a b : List Tm) : rowT (a ++ b) = rowT a ++ rowT b := by simp [rowT]
theorem rowT_length (ts : List Tm) : (rowT ts).length = ts.length * 2 := by
  induction ts with
  | nil => rfl
  | cons x ts ih =>
    have hx : rowT (x :: ts) = x.cells ++ rowT ts := by simp [rowT]
    have hl : x.cells.length = 2 := rfl
    rw [hx, List.length_append, ih, hl, List.length_cons]
    omega
theorem rowT_get (ts : List Tm) (i f : Nat) (t : Tm) (hi : ts[i]? = some t) (hf : f < 2) : (rowT ts)[i * 2 + f]? = t.cells[f]? := by
  induction ts generalizing i with
  | nil => simp at hi
  | cons x ts ih =>
    have hx : rowT (x :: ts) = x.cells ++ rowT ts := by simp [rowT]
    have hl : x.cells.length = 2 := rfl
    rw [hx]
    cases i with
    | zero =>
      simp at hi
      subst hi
      rw [Nat.zero_mul, Nat.zero_add, List.getElem?_append_left (by omega)]
    | succ i =>
      simp at hi
      rw [List.getElem?_append_right (by omega), hl, show (i + 1) * 2 + f - 2 = i * 2 + f by omega]
      exact ih i hi
theorem below_alloc (w : World) (o : Obj) : Below w.heap.size w (w.alloc o) := (Below.refl _ w).alloc (Nat.le_refl _) o
structure TmAt (w : World) (g o : Nat) (t : Tm) : Prop where
  name : w.cell? ⟨g, o, none⟩ = some (.string (str t.name))
  coef : w.cell? ⟨g, o + 1, none⟩ = some (.int .u32 t.coef)
theorem TmAt.below {w w' : World} {g o : Nat} {t : Tm} {B : Nat} (h : TmAt w g o t) (hb : Below B w w') (hg : g < B) : TmAt w' g o t :=
  ⟨by rw [hb.cell (p := ⟨g, o, none⟩) hg]; exact h.name, by rw [hb.cell (p := ⟨g, o + 1, none⟩) hg]; exact h.coef⟩
def TmLies (w : World) (a : Option Addr) (ts : List Tm) : Prop := ts = [] ∨ ∃ g o, a = some ⟨g, o, none⟩ ∧ g < w.heap.size ∧ ∀ i t, ts[i]? = some t → TmAt w g (o + i * 2) t
theorem TmLies.below {w w' : World} {a : Option Addr} {ts : List Tm} {B : Nat} (h : TmLies w a ts) (hb : Below B w w') (hB : w.heap.size ≤ B) : TmLies w' a ts := by
  rcases h with h | ⟨g, o, ha, hg, h⟩
  · exact .inl h
  · exact .inr ⟨g, o, ha, Nat.lt_of_lt_of_le hg hb.size, fun i t hi => (h i t hi).below hb (by omega)⟩
theorem TmLies.nil (w : World) (a : Option Addr) : TmLies w a [] := .inl rfl
theorem own_slice {w : World} {lo : Nat} {T : TypeId} {sz : Nat} {v : Value} {n : Nat} {xs : List Value} (h : w.ownsRow lo T sz v n xs) : ∃ a c, v = .slice a n c := by
  obtain ⟨hl, ⟨hv, h0⟩ | ⟨g, cap, cur, hv, r⟩⟩ := h
  · exact ⟨none, 0, by rw [hv, h0]⟩
  · exact ⟨_, cap, hv⟩
theorem own_tmLies {w : World} {B : Nat} {a : Option Addr} {c : Nat} {ts : List Tm} (h : w.ownsRow B 49 2 (.slice a ts.length c) ts.length (rowT ts)) : TmLies w a ts := by
  have h' := h
  obtain ⟨hl, ⟨hv, h0⟩ | ⟨g, cap, cur, hv, hbg, hg, r⟩⟩ := h
  · exact .inl (List.eq_nil_of_length_eq_zero h0)
  · injection hv with hv _ hv3
    subst hv
    refine .inr ⟨g, 0, rfl, (Array.getElem?_eq_some_iff.1 hg).1, fun i t hi => ?_⟩
    have hlt := (List.getElem?_eq_some_iff.1 hi).1
    have key : ∀ f, f < 2 → w.cell? ⟨g, i * 2 + f, none⟩ = t.cells[f]? := fun f hf => by rw [h'.cellAt _ (by rw [rowT_length] at hl; omega), rowT_get ts i f t hi hf]
    rw [Nat.zero_add]
    exact ⟨key 0 (by omega), key 1 (by omega)⟩
theorem own_weaken {w : World} {lo B : Nat} {T : TypeId} {sz : Nat} {v : Value} {n : Nat} {xs : List Value} (h : w.ownsRow lo T sz v n xs) (hB : B ≤ lo) : w.ownsRow B T sz v n xs := by
  refine ⟨h.1, ?_⟩
  rcases h.2 with hx | ⟨g, cap, cur, k1, k2, k3⟩
  · exact .inl hx
  · exact .inr ⟨g, cap, cur, k1, by omega, k3⟩
theorem own_type {w : World} {lo : Nat} {T : TypeId} {sz : Nat} {v : Value} {n : Nat} {xs : List Value} (h : w.ownsRow lo T sz v n xs) {g : Nat} (hg : v.ownBlock = some g) : ∃ cur, w.heap[g]? = some (.cells cur T (0, 0)) := by
  rcases h.2 with ⟨rfl, _⟩ | ⟨g', cap, cur, rfl, _, hgg, _⟩
  · simp [Value.ownBlock] at hg
  · simp [Value.ownBlock] at hg
    subst hg
    exact ⟨cur, hgg⟩
theorem own_low {w w' : World} {lo k : Nat} {T : TypeId} {sz : Nat} {v : Value} {n : Nat} {xs : List Value} (h : w.ownsRow lo T sz v n xs) (hg : w.grownBy w' (some k)) (hk : k < lo) : w'.ownsRow lo T sz v n xs :=
  h.kept hg (by
    cases hb : v.ownBlock with
    | none => exact .inl rfl
    | some g =>
      refine .inr fun e => ?_
      have := (h.lt g hb).1
      injection e with e
      omega)
structure Two (w : World) (g : Nat) (T : TypeId) (x y : Value) : Prop where
  heap : w.heap[g]? = some (.cells #[x, y] T (0, 0))
  c0 : w.cell? ⟨g, 0, none⟩ = some x
  c1 : w.cell? ⟨g, 1, none⟩ = some y
  f0 : w.frozen? ⟨g, 0, none⟩ = false
  f1 : w.frozen? ⟨g, 1, none⟩ = false
theorem two_of {w : World} {g : Nat} {T : TypeId} {x y : Value} (h : w.heap[g]? = some (.cells #[x, y] T (0, 0))) : Two w g T x y :=
  ⟨h, by rw [cell_of_row w g 0 _ T (0, 0) h]; rfl, by rw [cell_of_row w g 1 _ T (0, 0) h]; rfl, frozen_of_row w g 0 _ T h, frozen_of_row w g 1 _ T h⟩
theorem Two.alloc {w : World} {g : Nat} {T : TypeId} {x y : Value} (h : Two w g T x y) (o : Obj) : Two (w.alloc o) g T x y :=
  two_of (by rw [Below.heap_alloc w o g (Array.getElem?_eq_some_iff.1 h.heap).1]; exact h.heap)
theorem Two.a0 {w : World} {g : Nat} {T : TypeId} {x y : Value} (h : Two w g T x y) : ∀ o, (w.alloc o).cell? ⟨g, 0, none⟩ = some x := fun o => (h.alloc o).c0
theorem Two.a1 {w : World} {g : Nat} {T : TypeId} {x y : Value} (h : Two w g T x y) : ∀ o, (w.alloc o).cell? ⟨g, 1, none⟩ = some y := fun o => (h.alloc o).c1
theorem Two.b0 {w : World} {g : Nat} {T : TypeId} {x y : Value} (h : Two w g T x y) : ∀ o, (w.alloc o).frozen? ⟨g, 0, none⟩ = false := fun o => (h.alloc o).f0
theorem Two.b1 {w : World} {g : Nat} {T : TypeId} {x y : Value} (h : Two w g T x y) : ∀ o, (w.alloc o).frozen? ⟨g, 1, none⟩ = false := fun o => (h.alloc o).f1
theorem two_new (w : World) (T : TypeId) (x y : Value) : Two (w.alloc (.cells #[x, y] T)) w.heap.size T x y := two_of (heap_alloc_new w _)
theorem Two.grown {w w' : World} {g : Nat} {T : TypeId} {x y : Value} {k : Option Nat} (h : Two w g T x y) (hg : w.grownBy w' k) (hk : k ≠ some g) : Two w' g T x y :=
  two_of (by rw [hg.block g (Array.getElem?_eq_some_iff.1 h.heap).1 (fun e => hk e.symm)]; exact h.heap)
theorem Two.below {w w' : World} {g B : Nat} {T : TypeId} {x y : Value} (h : Two w g T x y) (hb : Below B w w') (hg : g < B) : Two w' g T x y := two_of (by rw [hb.block g hg]; exact h.heap)
theorem two_set {w : World} {g : Nat} {T : TypeId} {cur : Array Value} (h : w.heap[g]? = some (.cells cur T (0, 0))) (hc : cur.size = 2) (x y : Value) :
    Two ((w.setCell ⟨g, 0, none⟩ x).setCell ⟨g, 1, none⟩ y) g T x y ∧ w.grownBy ((w.setCell ⟨g, 0, none⟩ x).setCell ⟨g, 1, none⟩ y) (some g) := by
  have h1 := heap_setCell_same w g 0 cur T x h
  have h2 := heap_setCell_same _ g 1 _ T y h1
  refine ⟨two_of ?_, ?_⟩
  · rw [h2]
    obtain ⟨l⟩ := cur
    match l, hc with
    | [a, b], _ => rfl
  · refine ⟨rfl, rfl, rfl, by simp, fun k hk hne => ?_⟩
    have hk' : k ≠ g := fun e => hne (by rw [e])
    rw [heap_setCell_other _ _ _ _ hk', heap_setCell_other _ _ _ _ hk']
theorem cells_new2 (w : World) (o : Obj) (cs : Array Value) (T : TypeId) : ∀ j u, cs.toList[j]? = some u → ((w.alloc o).alloc (.cells cs T)).cell? ((⟨w.heap.size + 1, 0, none⟩ : Addr).add j) = some u := by
  intro j u h
  have := cells_new (w.alloc o) cs T j u h
  rwa [show (w.alloc o).heap.size = w.heap.size + 1 by simp] at this
theorem two_put {w : World} {g : Nat} {T : TypeId} {x y : Value} (h : Two w g T x y) (z : Value) : Two (w.setCell ⟨g, 0, none⟩ z) g T z y ∧ w.grownBy (w.setCell ⟨g, 0, none⟩ z) (some g) := by
  have h1 := heap_setCell_same w g 0 _ T z h.heap
  refine ⟨two_of h1, ⟨rfl, rfl, rfl, by simp, fun k hk hne => ?_⟩⟩
  have hk' : k ≠ g := fun e => hne (by rw [e])
  rw [heap_setCell_other _ _ _ _ hk']
theorem two_put1 {w : World} {g : Nat} {T : TypeId} {x y : Value} (h : Two w g T x y) (z : Value) : Two (w.setCell ⟨g, 1, none⟩ z) g T x z ∧ w.grownBy (w.setCell ⟨g, 1, none⟩ z) (some g) := by
  have h1 := heap_setCell_same w g 1 _ T z h.heap
  refine ⟨two_of h1, ⟨rfl, rfl, rfl, by simp, fun k hk hne => ?_⟩⟩
  have hk' : k ≠ g := fun e => hne (by rw [e])
  rw [heap_setCell_other _ _ _ _ hk']
theorem Try.info56 : (Try.prog.info? 49).map (fun i => (i.zero, i.size, i.bytes)) = some (some (.agg #[.string ⟨#[]⟩, .int .u32 0]), 2, 24) := by kernel_rfl
abbrev linV (v : Value) (k : Int) : Value := .agg #[v, .int .u32 k]
end Go.Proofs.Ytebbbefknfldoaa
