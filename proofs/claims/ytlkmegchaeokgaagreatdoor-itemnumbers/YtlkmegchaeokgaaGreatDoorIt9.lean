/- item's Read of an operation's line. -/
import Derived.Test.YtlkmegchaeokgaaGreatDoorItM
import Derived.Test.YtlkmegchaeokgaaGreatDoorTake
import Derived.Test.YtlkmegchaeokgaaGreatDoorParse
import Derived.Test.YtlkmegchaeokgaaGreatDoorILen
import Derived.Test.YtlkmegchaeokgaaGreatDoorRefRd
/- item's word, register, name, constant, numberOf, setRegister. -/
namespace Go.Proofs.YtlkmegchaeokgaaGreatDoor
open Go.ChangeShapes Go.WideShapes Go.ChangeAt Go.RowKit
set_option linter.unusedVariables false
set_option maxRecDepth 100000
theorem wordF_other {arg : List Tok} (h : arg.length ≠ 1) : wordF arg = [] := by
 match arg, h with
 | [], _ => rfl
 | [t], h => simp at h
 | t :: u :: r, _ => rfl
theorem word_any (a : Option Addr) (c : Nat) (arg : List Tok) (w : World) (hT : TokFrom w a arg) :
  Calls Tryz.prog 162 #[.slice a arg.length c] w fun e w' => e = .returned (.string (str (wordF arg))) /\ w' = w := by
 by_cases h1 : arg.length = 1
 ·match arg, h1, hT with
  | [t], _, hT =>
   obtain ⟨g, o, rfl, hg, ⟨q0, q1, q2, q3⟩, _⟩ := hT.head
   by_cases hk : t.kind = 1
   ·have hw : wordF [t] = t.text := by simp [wordF, hk]
    rw [hw]
    rw [hk] at q0
    clear hT
    show Calls Tryz.prog 162 #[.slice (some ⟨g, o, none⟩) 1 c] w _
    go_enter Tryz.func162, Tryz.ntmps162
    go_wp2
    all_goals first | omega | skip
    go_ret
    exact ⟨rfl, rfl⟩
   ·have hw : wordF [t] = [] := by simp [wordF, hk]
    rw [hw]
    have hk' : (t.kind == 1) = false := by simp [hk]
    clear hT
    show Calls Tryz.prog 162 #[.slice (some ⟨g, o, none⟩) 1 c] w _
    go_enter Tryz.func162, Tryz.ntmps162
    go_wp2
    all_goals first | omega | skip
    go_ret
    exact ⟨rfl, rfl⟩
 ·rw [wordF_other h1]
  generalize arg.length = n0 at h1 ⊢
  have h1' : ¬ ((n0 : Int) = 1) := by omega
  clear hT
  go_enter Tryz.func162, Tryz.ntmps162
  go_wp2
  all_goals first | omega | skip
  go_ret
  exact ⟨rfl, rfl⟩
theorem wordF_len {arg : List Tok} {m : Nat} (h : ∀ t ∈ arg, t.text.length <= m) : (wordF arg).length <= m := by
 match arg, h with
 | [], _ => simp [wordF]
 | [t], h =>
  have := h t (by simp)
  show (if t.kind = 1 then t.text else []).length <= m
  by_cases hk : t.kind = 1
  ·rw [if_pos hk]; exact this
  ·rw [if_neg hk]; simp
 | t :: u :: r, _ => simp [wordF]
theorem str_sizeI (l : List UInt8) : (str l).size = l.length := rfl
def regV (r : Option Int) : Value := match r with | some n => .tuple #[.int .i64 n, .bool true] | none => .tuple #[.int .i64 0, .bool false]
theorem itRegister_any (a : Option Addr) (c : Nat) (arg : List Tok) (z : Bool) (w : World) (hT : TokFrom w a arg) (hs : ∀ t ∈ arg, t.text.length <= 1000000) :
  Calls Tryz.prog 168 #[.slice a arg.length c, .bool z] w fun e w' => e = .returned (regV (regF arg z)) /\ w' = w := by
 have hw := Hid.intro (word_any a c arg w hT)
 have hr := Hid.intro (register_any (str (wordF arg)) (by rw [str_sizeI]; have := wordF_len hs; omega) w)
 have hF : regF arg z = if (isR (str (wordF arg)) || isZ (str (wordF arg))) = true /\ isZ (str (wordF arg)) = z then some (regN (str (wordF arg))) else none := rfl
 rw [hF]
 clear hF
 generalize regN (str (wordF arg)) = N at hr ⊢
 generalize (isR (str (wordF arg)) || isZ (str (wordF arg))) = ok at hr ⊢
 generalize isZ (str (wordF arg)) = zz at hr ⊢
 clear hT hs
 generalize arg.length = n0 at hw ⊢
 cases ok
 ·rw [if_neg (by simp)]
  go_enter Tryz.func168, Tryz.ntmps168
  go_wp2_with (first | (go_at_call 162; (with_reducible refine (hw.out).mono ?_); rintro e w' ⟨rfl, rfl⟩) | (go_at_call 44; (with_reducible refine (hr.out).mono ?_); rintro e w' ⟨rfl, rfl⟩))
  all_goals first | omega | skip
  go_ret2
  exact ⟨rfl, rfl⟩
 ·cases zz <;> cases z
  all_goals (try rw [if_pos ⟨rfl, rfl⟩])
  all_goals (try rw [if_neg (fun h => nomatch h.2)])
  all_goals
   go_enter Tryz.func168, Tryz.ntmps168
   go_wp2_with (first | (go_at_call 162; (with_reducible refine (hw.out).mono ?_); rintro e w' ⟨rfl, rfl⟩) | (go_at_call 44; (with_reducible refine (hr.out).mono ?_); rintro e w' ⟨rfl, rfl⟩))
   all_goals first | omega | skip
   go_ret2
   exact ⟨rfl, rfl⟩
def nameVI (r : Except Int (List UInt8)) : Value := match r with | .ok s => .tuple #[.string (str s), .int .i64 0] | .error k => .tuple #[.string ⟨#[]⟩, .int .i64 k]
theorem name_any (a : Option Addr) (c : Nat) (arg : List Tok) (w : World) (hT : TokFrom w a arg) (hs : ∀ t ∈ arg, t.text.length <= 1000000) :
  Calls Tryz.prog 161 #[.slice a arg.length c] w fun e w' => e = .returned (nameVI (nameF arg)) /\ Below w.heap.size w w' := by
 have hw := Hid.intro (word_any a c arg w hT)
 have hlen := wordF_len hs
 have hl := Hid.intro (legal_any (str (wordF arg)) (by rw [str_sizeI]; omega) w)
 have hc := Hid.intro (fun (w1 : World) => clone_any (str (wordF arg)) w1 (by rw [str_sizeI]; omega))
 have hF : nameF arg = if legB (str (wordF arg)) = true then .ok (wordF arg) else .error 20 := rfl
 rw [hF]
 clear hF hlen
 generalize legB (str (wordF arg)) = ok at hl ⊢
 generalize hs2 : str (wordF arg) = s2 at hw hl hc
 clear hT hs
 generalize arg.length = n0 at hw ⊢
 cases ok
 ·rw [if_neg (by simp)]
  clear hs2
  go_enter Tryz.func161, Tryz.ntmps161
  go_wp2_with (first | (go_at_call 162; (with_reducible refine (hw.out).mono ?_); rintro e w' ⟨rfl, rfl⟩) | (go_at_call 18; (with_reducible refine (hl.out).mono ?_); rintro e w1 ⟨rfl, hb1⟩))
  all_goals first | omega | skip
  go_ret2
  exact ⟨rfl, hb1⟩
 ·rw [if_pos rfl, show nameVI (.ok (wordF arg)) = .tuple #[.string s2, .int .i64 0] from by rw [<- hs2]; rfl]
  clear hs2
  go_enter Tryz.func161, Tryz.ntmps161
  go_wp2_with (first | (go_at_call 162; (with_reducible refine (hw.out).mono ?_); rintro e w' ⟨rfl, rfl⟩) | (go_at_call 18; (with_reducible refine (hl.out).mono ?_); rintro e w1 ⟨rfl, hb1⟩) | (go_at_call 70; (with_reducible refine (hc.out _).mono ?_); rintro e w2 ⟨rfl, hb2⟩))
  all_goals first | omega | skip
  go_ret2
  exact ⟨rfl, hb1.trans (hb2.mono hb1.size)⟩
end Go.Proofs.YtlkmegchaeokgaaGreatDoor
/- item's constant, numberOf; isa's part of a reader. -/
namespace Go.Proofs.YtlkmegchaeokgaaGreatDoor
open Go.ChangeShapes Go.WideShapes Go.ChangeAt Go.RowKit
set_option linter.unusedVariables false
set_option maxRecDepth 100000
theorem parseF_good {ts : List Tok} {x : Lin} (h : parseF ts = .ok x) : GoodL x /\ x.terms.length <= ts.length := by
 unfold parseF at h
 cases hS : sumD 33 ts with
 | error e => rw [hS] at h; cases h
 | ok p =>
  obtain ⟨y, r⟩ := p
  rw [hS] at h
  cases r with
  | nil => cases h; exact ⟨(sumD_fine 33).good _ _ _ hS, by have := (sumD_fine 33).len _ _ _ hS; omega⟩
  | cons t r => cases h
theorem parseF_err {ts : List Tok} {k : Int} (h : parseF ts = .error k) : k = 20 ∨ k = 21 := by
 unfold parseF at h
 cases hS : sumD 33 ts with
 | error e => rw [hS] at h; cases h; exact (sumD_fine 33).err _ _ hS
 | ok p =>
  obtain ⟨y, r⟩ := p
  rw [hS] at h
  cases r with
  | nil => cases h
  | cons t r => cases h; exact .inl rfl
theorem constF_err {arg : List Tok} {k : Int} (h : constF arg = .error k) : k = 20 ∨ k = 21 := by
 unfold constF at h
 cases hp : parseF arg with
 | error e => rw [hp] at h; cases h; exact parseF_err hp
 | ok x =>
  rw [hp] at h
  simp only at h
  split at h
  ·cases h
  ·cases h; exact .inr rfl
theorem constF_range {arg : List Tok} {n : Int} (h : constF arg = .ok n) : -2147483648 <= n /\ n <= 2147483647 := by
 unfold constF at h
 cases hp : parseF arg with
 | error e => rw [hp] at h; cases h
 | ok x =>
  rw [hp] at h
  simp only at h
  have := (parseF_good hp).1
  have h1 := this.lo
  have h2 := this.hi
  split at h
  ·cases h
   unfold i32F
   split <;> omega
  ·cases h
def constV (r : Except Int Int) : Value := match r with | .ok n => .tuple #[.int .i32 n, .int .i64 0] | .error k => .tuple #[.int .i32 0, .int .i64 k]
theorem i32_wrap (n : Int) (h0 : 0 <= n) (h1 : n < 4294967296) : IntKind.i32.wrap n = i32F n := by
 rw [IntKind.wrap_i32]; unfold i32F; split <;> omega
set_option maxHeartbeats 1000000 in
theorem constant_any (a : Option Addr) (c : Nat) (arg : List Tok) (w : World) (hT : Toks w a c arg) :
  Calls Tryz.prog 121 #[.slice a arg.length c] w fun e w' => e = .returned (constV (constF arg)) /\ Below w.heap.size w w' := by
 have hp := parse_any a c arg w hT
 have hF : constF arg = match parseF arg with | .error e => .error e | .ok x => if x.terms.length = 0 then .ok (i32F x.const) else .error 21 := rfl
 rw [hF]
 clear hF
 unfold ParseOut at hp
 have hg := @parseF_good arg
 have he := @parseF_err arg
 generalize parseF arg = R at hp hg he ⊢
 have hfew := hT.few
 clear hT
 generalize arg.length = n0 at hp hg hfew ⊢
 cases R with
 | error k =>
  have hk := he rfl
  have hk0 : (k == 0) = false := by rcases hk with rfl | rfl <;> rfl
  clear hg he hk
  have hpH := Hid.intro hp
  clear hp
  go_enter Tryz.func121, Tryz.ntmps121
  go_wp2_with (go_at_call 122; (with_reducible refine (hpH.out).mono ?_); rintro e w1 ⟨hb1, rfl⟩)
  all_goals first | omega | skip
  go_ret2
  exact ⟨rfl, hb1.alloc (hb1.size) _⟩
 | ok x =>
  have hx := hg rfl
  have h1 := hx.1.lo
  have h2 := hx.1.hi
  have h3 := hx.2
  have hpH := Hid.intro hp
  clear hp hg he
  have hw32 := i32_wrap x.const h1 h2
  by_cases h0 : x.terms.length = 0
  ·simp only
   rw [if_pos h0]
   go_enter Tryz.func121, Tryz.ntmps121
   go_wp2_with (go_at_call 122; (with_reducible refine (hpH.out).mono ?_); rintro e w1 ⟨hb1, a1, n1, c1, rfl, hown⟩; have hn1 : n1 = 0 := (own_len hown).trans h0; clear hown; subst hn1)
   all_goals first | omega | skip
   go_ret2
   exact ⟨by rw [<- hw32]; rfl, hb1.alloc (hb1.size) _⟩
  ·simp only
   rw [if_neg h0]
   go_enter Tryz.func121, Tryz.ntmps121
   go_wp2_with (go_at_call 122; (with_reducible refine (hpH.out).mono ?_); rintro e w1 ⟨hb1, a1, n1, c1, rfl, hown⟩; have hn1 := own_len hown; clear hown; have hn2 : 0 < n1 := (by omega); clear hn1)
   all_goals first | omega | skip
   go_ret2
   exact ⟨rfl, hb1.alloc (hb1.size) _⟩
def numV (r : Except Int Int) : Value := match r with | .ok n => .tuple #[.int .i64 n, .int .i64 0] | .error k => .tuple #[.int .i64 0, .int .i64 k]
theorem numF_err {kind : Int} {arg : List Tok} {k : Int} (h : numF kind arg = .error k) : k = 20 ∨ k = 21 := by
 unfold numF at h
 cases hc : constF arg with
 | error e => rw [hc] at h; cases h; exact constF_err hc
 | ok n =>
  rw [hc] at h
  simp only at h
  split at h
  ·cases h
  ·cases h; exact .inr rfl
theorem numberOf_any (kind : Int) (a : Option Addr) (c : Nat) (arg : List Tok) (w : World) (hT : Toks w a c arg) :
  Calls Tryz.prog 120 #[.int .i64 kind, .slice a arg.length c] w fun e w' => e = .returned (numV (numF kind arg)) /\ Below w.heap.size w w' := by
 have hp := constant_any a c arg w hT
 have hF : numF kind arg = match constF arg with | .error e => .error e | .ok n => if numOfB kind n = true then .ok n else .error 21 := rfl
 rw [hF]
 clear hF
 have hg := @constF_range arg
 have he := @constF_err arg
 generalize constF arg = R at hp hg he ⊢
 clear hT
 generalize arg.length = n0 at hp ⊢
 cases R with
 | error k =>
  have hk := he rfl
  have hk0 : (k == 0) = false := by rcases hk with rfl | rfl <;> rfl
  clear hg he hk
  simp only [constV] at hp
  replace hp := Hid.intro hp
  go_enter Tryz.func120, Tryz.ntmps120
  go_wp2_with (go_at_call 121; (with_reducible refine (hp.out).mono ?_); rintro e w1 ⟨rfl, hb1⟩)
  all_goals first | omega | skip
  go_ret2
  exact ⟨rfl, hb1⟩
 | ok n =>
  have hn := hg rfl
  have hi := Hid.intro (fun w1 => isNumberOf_any kind n w1 (by omega))
  have hw64 : IntKind.i64.wrap n = n := by rw [IntKind.wrap_i64]; omega
  clear hg he
  simp only [constV] at hp ⊢
  replace hp := Hid.intro hp
  generalize numOfB kind n = b at hi ⊢
  cases b
  ·rw [if_neg (by simp)]
   go_enter Tryz.func120, Tryz.ntmps120
   go_wp2_with (first | (go_at_call 121; (with_reducible refine (hp.out).mono ?_); rintro e w1 ⟨rfl, hb1⟩) | (go_at_call 27; (with_reducible refine (hi.out _).mono ?_); rintro e w2 ⟨rfl, rfl⟩))
   all_goals first | omega | skip
   go_ret2
   exact ⟨rfl, hb1⟩
  ·rw [if_pos rfl]
   go_enter Tryz.func120, Tryz.ntmps120
   go_wp2_with (first | (go_at_call 121; (with_reducible refine (hp.out).mono ?_); rintro e w1 ⟨rfl, hb1⟩) | (go_at_call 27; (with_reducible refine (hi.out _).mono ?_); rintro e w2 ⟨rfl, rfl⟩))
   all_goals first | omega | skip
   go_ret2
   exact ⟨by first | rfl | (rw [show numV (.ok n) = .tuple #[.int .i64 n, .int .i64 0] from rfl]; simp [hw64]), hb1⟩
end Go.Proofs.YtlkmegchaeokgaaGreatDoor
/- item's reader of an operation's arguments. -/
namespace Go.Proofs.YtlkmegchaeokgaaGreatDoor
open Go.ChangeShapes Go.WideShapes Go.ChangeAt Go.RowKit
set_option linter.unusedVariables false
set_option maxRecDepth 100000
structure OpB (w : World) (b : Nat) (wants : List UInt8) (x : Itm) (va : Option Addr) (n vc : Nat) : Prop where
 heap : w.heap[b]? = some (.cells #[.string (str wants), .int .i64 x.kind, .string (str x.name), .int .i64 x.op, .int .i64 x.a, .int .i64 x.b, .int .i32 x.m, .int .i64 x.form, .slice va n vc, .int .u32 x.e.const, .int .i64 x.n] 143 (0, 0))
 own : w.ownsRow (b + 1) 61 2 (.slice va n vc) x.e.terms.length (rowT x.e.terms)
theorem OpB.lt {w : World} {b : Nat} {wants : List UInt8} {x : Itm} {va : Option Addr} {n vc : Nat} (h : OpB w b wants x va n vc) : b < w.heap.size := (Array.getElem?_eq_some_iff.1 h.heap).1
theorem OpB.cell {w : World} {b : Nat} {wants : List UInt8} {x : Itm} {va : Option Addr} {n vc : Nat} (h : OpB w b wants x va n vc) (j : Nat) : w.cell? ⟨b, j, none⟩ = (#[.string (str wants), .int .i64 x.kind, .string (str x.name), .int .i64 x.op, .int .i64 x.a, .int .i64 x.b, .int .i32 x.m, .int .i64 x.form, .slice va n vc, .int .u32 x.e.const, .int .i64 x.n] : Array Value)[j]? := cell_blockT h.heap j
theorem OpB.frozen {w : World} {b : Nat} {wants : List UInt8} {x : Itm} {va : Option Addr} {n vc : Nat} (h : OpB w b wants x va n vc) (j : Nat) : w.frozen? ⟨b, j, none⟩ = false := frozen_of_row w b j _ 143 h.heap
theorem OpB.below {w w' : World} {b : Nat} {wants : List UInt8} {x : Itm} {va : Option Addr} {n vc : Nat} (h : OpB w b wants x va n vc) (hb : Below w.heap.size w w') : OpB w' b wants x va n vc :=
 ⟨by rw [hb.block b h.lt]; exact h.heap, own_low h.own (grown_wide (grown_of_below hb) (some b)) (by omega)⟩
def setReg (place : Nat) (n : Int) (x : Itm) : Itm := if place = 0 then { x with a := n } else if place = 1 then { x with b := n } else { x with m := n }
theorem opb_set {w : World} {b : Nat} {wants : List UInt8} {x : Itm} {va : Option Addr} {n vc : Nat} (h : OpB w b wants x va n vc) (j : Nat) (v : Value) (x' : Itm) (he : x'.e = x.e)
  (hj : (#[.string (str wants), .int .i64 x.kind, .string (str x.name), .int .i64 x.op, .int .i64 x.a, .int .i64 x.b, .int .i32 x.m, .int .i64 x.form, .slice va n vc, .int .u32 x.e.const, .int .i64 x.n] : Array Value).setIfInBounds j v = #[.string (str wants), .int .i64 x'.kind, .string (str x'.name), .int .i64 x'.op, .int .i64 x'.a, .int .i64 x'.b, .int .i32 x'.m, .int .i64 x'.form, .slice va n vc, .int .u32 x'.e.const, .int .i64 x'.n]) :
  OpB (w.setCell ⟨b, j, none⟩ v) b wants x' va n vc /\ w.grownBy (w.setCell ⟨b, j, none⟩ v) (some b) := by
 obtain ⟨s1, s2⟩ := row_set h.heap j v
 rw [hj] at s1
 exact ⟨⟨s1, by rw [he]; exact own_low h.own s2 (by omega)⟩, s2⟩
theorem setRegister_any (b : Nat) (wants : List UInt8) (x : Itm) (va : Option Addr) (n vc : Nat) (place : Nat) (r : Int) (hr : 0 <= r /\ r <= 7) (hp : place <= 3) (w : World) (h : OpB w b wants x va n vc) :
  Calls Tryz.prog 166 #[.pointer (some ⟨b, 0, none⟩), .int .i64 (place : Int), .int .i64 r] w fun e w' => e = .returned (.tuple #[]) /\ w.grownBy w' (some b) /\ OpB w' b wants (setReg place r x) va n vc := by
 have c4 := (h.cell 4).trans rfl
 have c5 := (h.cell 5).trans rfl
 have c6 := (h.cell 6).trans rfl
 have f4 := h.frozen 4
 have f5 := h.frozen 5
 have f6 := h.frozen 6
 have hH := Hid.intro h
 clear h
 by_cases h0 : place = 0
 ·subst h0
  go_enter Tryz.func166, Tryz.ntmps166
  go_wp2
  all_goals first | omega | skip
  go_end0
  obtain ⟨s1, s2⟩ := opb_set hH.out 4 (.int .i64 r) (setReg 0 r x) rfl rfl
  exact ⟨rfl, s2, s1⟩
 by_cases h1 : place = 1
 ·subst h1
  go_enter Tryz.func166, Tryz.ntmps166
  go_wp2
  all_goals first | omega | skip
  go_end0
  obtain ⟨s1, s2⟩ := opb_set hH.out 5 (.int .i64 r) (setReg 1 r x) rfl rfl
  exact ⟨rfl, s2, s1⟩
 ·have g0 : ¬ ((place : Int) = 0) := by omega
  have g1 : ¬ ((place : Int) = 1) := by omega
  have hw : IntKind.i32.wrap r = r := by rw [IntKind.wrap_i32]; omega
  have hs : setReg place r x = { x with m := r } := by simp [setReg, h0, h1]
  rw [hs]
  go_enter Tryz.func166, Tryz.ntmps166
  go_wp2
  all_goals first | omega | skip
  go_end0
  obtain ⟨s1, s2⟩ := opb_set hH.out 6 (.int .i32 r) { x with m := r } rfl rfl
  first | exact ⟨rfl, s2, s1⟩ | (rw [hw]; exact ⟨rfl, s2, s1⟩)
end Go.Proofs.YtlkmegchaeokgaaGreatDoor
/- item's readOne. -/
namespace Go.Proofs.YtlkmegchaeokgaaGreatDoor
open Go.ChangeShapes Go.WideShapes Go.ChangeAt Go.RowKit
set_option linter.unusedVariables false
set_option maxRecDepth 100000
def exprF (arg : List Tok) (x : Itm) : Except Int Itm :=
 match parseF arg with
 | .error k => .error k
 | .ok y => .ok { x with e := y }
def stepF (wc : Int) (place : Nat) (arg : List Tok) (x : Itm) : Except Int Itm :=
 if wc = 114 ∨ wc = 122 then
  match regF arg (decide (wc = 122)) with
  | none => .error 20
  | some n => .ok (setReg place n x)
 else if wc = 110 then
  match constF arg with
  | .error k => .error k
  | .ok n => if checkN x.op x.a x.b n x.form = 0 then .ok { x with m := n } else .error 21
 else if wc = 61 then
  match arg with
  | [] => .error 20
  | t :: r => if isS t 61 = true then exprF r x else .error 20
 else exprF arg x
def whyOf {α : Type} (R : Except Int α) : Int := match R with | .ok _ => 0 | .error k => k
def OneOut (w : World) (b : Nat) (wants : List UInt8) (R : Except Int Itm) (e : Ending) (w' : World) : Prop :=
 e = .returned (.int .i64 (whyOf R)) /\ Below b w w' /\ match R with | .ok x' => ∃ va n vc, OpB w' b wants x' va n vc | .error _ => True
theorem regF_range {arg : List Tok} {z : Bool} {n : Int} (h : regF arg z = some n) : 0 <= n /\ n <= 7 /\ (z = true -> n <= 3) := by
 unfold regF at h
 split at h
 ·rename_i hc
  cases h
  obtain ⟨h1, h2⟩ := hc
  simp only [Bool.or_eq_true] at h1
  rcases h1 with h1 | h1
  ·obtain ⟨e1, e2⟩ := reg_r _ h1
   rw [e1]
   rw [e2] at h2
   simp [isR] at h1
   refine ⟨by omega, by omega, fun hz => by rw [hz] at h2; cases h2⟩
  ·obtain ⟨e1, e2⟩ := reg_z _ h1
   rw [e1]
   simp [isZ] at h1
   refine ⟨by omega, by omega, fun hz => by omega⟩
 ·cases h
set_option maxHeartbeats 1000000 in
theorem readOne_reg (b : Nat) (wants : List UInt8) (x : Itm) (va : Option Addr) (n vc : Nat) (place : Nat) (wc : Int) (hwc : atI (bs (str wants)) place = wc) (hpl : place < wants.length) (hp3 : place <= 3) (hws : wants.length <= 10) (a : Option Addr) (c : Nat) (arg : List Tok) (w : World) (hT : Toks w a c arg) (h : OpB w b wants x va n vc) (hz : wc = 114 ∨ wc = 122) :
  Calls Tryz.prog 167 #[.pointer (some ⟨b, 0, none⟩), .int .i64 (place : Int), .slice a arg.length c] w fun e w' => OneOut w b wants (stepF wc place arg x) e w' := by
 have c0 := (h.cell 0).trans rfl
 have hlen : (str wants).size = wants.length := rfl
 have hget := atI_get (str wants) place (by omega)
 rw [hwc] at hget
 have hreg := Hid.intro (fun (z : Bool) => itRegister_any a c arg z w hT.lies hT.short)
 have hrg := @regF_range arg (decide (wc = 122))
 have hF : stepF wc place arg x = match regF arg (decide (wc = 122)) with | none => .error 20 | some n => .ok (setReg place n x) := by unfold stepF; rw [if_pos hz]
 rw [hF]
 have hH := Hid.intro h
 clear hT h hF hwc
 generalize arg.length = n0 at hreg ⊢
 have hlt := hH.out.lt
 rcases hz with rfl | rfl
 ·have hreg1 := hreg.out false
  have hrg1 : ∀ n, regF arg false = some n -> 0 <= n /\ n <= 7 := fun n hn => ⟨(hrg hn).1, (hrg hn).2.1⟩
  show Calls Tryz.prog 167 _ w fun e w' => OneOut w b wants (match regF arg false with | none => .error 20 | some n => .ok (setReg place n x)) e w'
  clear hreg hrg
  generalize regF arg false = R at hreg1 hrg1 ⊢
  cases R with
  | none =>
   simp only [regV] at hreg1
   replace hreg1 := Hid.intro hreg1
   go_enter Tryz.func167, Tryz.ntmps167
   go_wp2_with (go_at_call 168; (with_reducible refine (hreg1.out).mono ?_); rintro e w1 ⟨rfl, rfl⟩)
   all_goals first | omega | skip
   go_ret
   exact ⟨rfl, Below.refl _ _, trivial⟩
  | some r =>
   have hr := hrg1 r rfl
   simp only [regV] at hreg1
   replace hreg1 := Hid.intro hreg1
   have hset := Hid.intro (setRegister_any b wants x va n vc place r hr hp3 w hH.out)
   go_enter Tryz.func167, Tryz.ntmps167
   go_wp2_with (first | (go_at_call 168; (with_reducible refine (hreg1.out).mono ?_); rintro e w1 ⟨rfl, rfl⟩) | (go_at_call 166; (with_reducible refine (hset.out).mono ?_); rintro e w2 ⟨rfl, hg2, hO2⟩))
   all_goals first | omega | skip
   go_ret
   exact ⟨rfl, below_of_grown hg2 (Nat.le_refl _) (by omega), _, _, _, hO2⟩
 ·have hreg1 := hreg.out true
  have hrg1 : ∀ n, regF arg true = some n -> 0 <= n /\ n <= 7 := fun n hn => ⟨(hrg hn).1, (hrg hn).2.1⟩
  show Calls Tryz.prog 167 _ w fun e w' => OneOut w b wants (match regF arg true with | none => .error 20 | some n => .ok (setReg place n x)) e w'
  clear hreg hrg
  generalize regF arg true = R at hreg1 hrg1 ⊢
  cases R with
  | none =>
   simp only [regV] at hreg1
   replace hreg1 := Hid.intro hreg1
   go_enter Tryz.func167, Tryz.ntmps167
   go_wp2_with (go_at_call 168; (with_reducible refine (hreg1.out).mono ?_); rintro e w1 ⟨rfl, rfl⟩)
   all_goals first | omega | skip
   go_ret
   exact ⟨rfl, Below.refl _ _, trivial⟩
  | some r =>
   have hr := hrg1 r rfl
   simp only [regV] at hreg1
   replace hreg1 := Hid.intro hreg1
   have hset := Hid.intro (setRegister_any b wants x va n vc place r hr hp3 w hH.out)
   go_enter Tryz.func167, Tryz.ntmps167
   go_wp2_with (first | (go_at_call 168; (with_reducible refine (hreg1.out).mono ?_); rintro e w1 ⟨rfl, rfl⟩) | (go_at_call 166; (with_reducible refine (hset.out).mono ?_); rintro e w2 ⟨rfl, hg2, hO2⟩))
   all_goals first | omega | skip
   go_ret
   exact ⟨rfl, below_of_grown hg2 (Nat.le_refl _) (by omega), _, _, _, hO2⟩
end Go.Proofs.YtlkmegchaeokgaaGreatDoor
/- item's readOne: constants and expressions. -/
namespace Go.Proofs.YtlkmegchaeokgaaGreatDoor
open Go.ChangeShapes Go.WideShapes Go.ChangeAt Go.RowKit
set_option linter.unusedVariables false
set_option maxRecDepth 100000
theorem Tab.grown {w w' : World} {b : Nat} (h : Tab w) (hg : w.grownBy w' (some b)) (hb : 2 <= b) : Tab w' := by
 obtain ⟨⟨t, z, h1⟩, t2, z2, h2⟩ := h
 have l0 := (Array.getElem?_eq_some_iff.1 h1).1
 have l1 := (Array.getElem?_eq_some_iff.1 h2).1
 exact ⟨⟨t, z, by rw [hg.block 0 l0 (by simp; omega)]; exact h1⟩, t2, z2, by rw [hg.block 1 l1 (by simp; omega)]; exact h2⟩
set_option maxHeartbeats 1000000 in
theorem readOne_const (b : Nat) (wants : List UInt8) (x : Itm) (va : Option Addr) (n vc : Nat) (place : Nat) (hwc : atI (bs (str wants)) place = 110) (hpl : place < wants.length) (hws : wants.length <= 10) (a : Option Addr) (c : Nat) (arg : List Tok) (w : World) (hT : Toks w a c arg) (h : OpB w b wants x va n vc) (hTab : Tab w) (hb2 : 2 <= b) :
  Calls Tryz.prog 167 #[.pointer (some ⟨b, 0, none⟩), .int .i64 (place : Int), .slice a arg.length c] w fun e w' => OneOut w b wants (stepF 110 place arg x) e w' := by
 have c0 := (h.cell 0).trans rfl
 have hlen : (str wants).size = wants.length := rfl
 have hget := atI_get (str wants) place (by omega)
 rw [hwc] at hget
 have hcon := constant_any a c arg w hT
 have hrg := @constF_range arg
 have her := @constF_err arg
 have hF : stepF 110 place arg x = match constF arg with | .error k => .error k | .ok n => if checkN x.op x.a x.b n x.form = 0 then .ok { x with m := n } else .error 21 := by unfold stepF; rw [if_neg (by omega), if_pos rfl]; try rfl
 rw [hF]
 have hH := Hid.intro h
 have hTH := Hid.intro hTab
 clear hT h hF hwc hTab
 generalize arg.length = n0 at hcon ⊢
 have hlt := hH.out.lt
 generalize constF arg = R at hcon hrg her ⊢
 cases R with
 | error k =>
  have hk0 : (k == 0) = false := by rcases her rfl with rfl | rfl <;> rfl
  simp only [constV] at hcon ⊢
  replace hcon := Hid.intro hcon
  clear her hrg
  go_enter Tryz.func167, Tryz.ntmps167
  go_wp2_with (go_at_call 121; (with_reducible refine (hcon.out).mono ?_); rintro e w1 ⟨rfl, hb1⟩; have hO1 := Hid.intro (hH.out.below hb1); have d6 := (hO1.out.cell 6).trans rfl; have f6 := hO1.out.frozen 6)
  all_goals first | omega | skip
  go_ret
  refine ⟨rfl, ?_, trivial⟩
  obtain ⟨s1, s2⟩ := opb_set hO1.out 6 (.int .i32 0) { x with m := 0 } rfl rfl
  have := hb1.size
  exact (hb1.mono (by omega)).grown s2 (by omega) (fun j hj => by cases hj; exact Nat.le_refl _)
 | ok r =>
  have hr := hrg rfl
  simp only [constV] at hcon ⊢
  replace hcon := Hid.intro hcon
  clear her hrg
  have hchk := Hid.intro (fun (w3 : World) (h3 : Tab w3) => check_any x.op x.a x.b r x.form w3 h3 hr)
  generalize checkN x.op x.a x.b r x.form = ck at hchk ⊢
  by_cases hck : ck = 0
  ·subst hck
   rw [if_pos rfl]
   go_enter Tryz.func167, Tryz.ntmps167
   go_wp2_with (first | (go_at_call 121; (with_reducible refine (hcon.out).mono ?_); rintro e w1 ⟨rfl, hb1⟩; have hO1 := Hid.intro (hH.out.below hb1); have d6 := (hO1.out.cell 6).trans rfl; have f6 := hO1.out.frozen 6; have hS := Hid.intro (opb_set hO1.out 6 (.int .i32 r) { x with m := r } rfl rfl); have e3 := (hS.out.1.cell 3).trans rfl; have e4 := (hS.out.1.cell 4).trans rfl; have e5 := (hS.out.1.cell 5).trans rfl; have e6 := (hS.out.1.cell 6).trans rfl; have e7 := (hS.out.1.cell 7).trans rfl; have hT2 := Hid.intro ((hTH.out.below hb1 hTH.out.size).grown hS.out.2 hb2)) | (go_at_call 49; (with_reducible refine (hchk.out _ hT2.out).mono ?_); rintro e w3 ⟨rfl, hb3⟩))
   all_goals first | omega | skip
   go_ret
   have h1 := hb1.size
   have h2 := hS.out.2.size
   have hBB : Below b w w3 := ((hb1.mono (by omega)).grown hS.out.2 (by omega) (fun j hj => by cases hj; exact Nat.le_refl _)).trans (hb3.mono (by omega))
   exact ⟨rfl, hBB, _, _, _, hS.out.1.below hb3⟩
  ·rw [if_neg hck]
   have hck0 : (ck == 0) = false := by simp [hck]
   go_enter Tryz.func167, Tryz.ntmps167
   go_wp2_with (first | (go_at_call 121; (with_reducible refine (hcon.out).mono ?_); rintro e w1 ⟨rfl, hb1⟩; have hO1 := Hid.intro (hH.out.below hb1); have d6 := (hO1.out.cell 6).trans rfl; have f6 := hO1.out.frozen 6; have hS := Hid.intro (opb_set hO1.out 6 (.int .i32 r) { x with m := r } rfl rfl); have e3 := (hS.out.1.cell 3).trans rfl; have e4 := (hS.out.1.cell 4).trans rfl; have e5 := (hS.out.1.cell 5).trans rfl; have e6 := (hS.out.1.cell 6).trans rfl; have e7 := (hS.out.1.cell 7).trans rfl; have hT2 := Hid.intro ((hTH.out.below hb1 hTH.out.size).grown hS.out.2 hb2)) | (go_at_call 49; (with_reducible refine (hchk.out _ hT2.out).mono ?_); rintro e w3 ⟨rfl, hb3⟩))
   all_goals first | omega | skip
   go_ret
   have h1 := hb1.size
   have h2 := hS.out.2.size
   have hBB : Below b w w3 := ((hb1.mono (by omega)).grown hS.out.2 (by omega) (fun j hj => by cases hj; exact Nat.le_refl _)).trans (hb3.mono (by omega))
   exact ⟨rfl, hBB, trivial⟩
theorem opb_expr {w w1 : World} {b : Nat} {wants : List UInt8} {x : Itm} {va : Option Addr} {n vc : Nat} (h : OpB w b wants x va n vc) (hb : Below w.heap.size w w1) (y : Lin) (vb : Option Addr) (m vd : Nat) (ho : w1.ownsRow w.heap.size 61 2 (.slice vb m vd) y.terms.length (rowT y.terms)) :
  OpB ((w1.setCell ⟨b, 8, none⟩ (.slice vb m vd)).setCell ⟨b, 9, none⟩ (.int .u32 y.const)) b wants { x with e := y } vb m vd /\ Below b w ((w1.setCell ⟨b, 8, none⟩ (.slice vb m vd)).setCell ⟨b, 9, none⟩ (.int .u32 y.const)) := by
 have hlt := h.lt
 obtain ⟨s1, s2⟩ := row_set (h.below hb).heap 8 (.slice vb m vd)
 obtain ⟨t1, t2⟩ := row_set s1 9 (.int .u32 y.const)
 have q1 := hb.size
 have q2 := s2.size
 exact ⟨⟨t1, own_weaken (own_low (own_low ho s2 hlt) t2 hlt) (by omega)⟩, ((hb.mono (by omega)).grown s2 (by omega) (fun j hj => by cases hj; exact Nat.le_refl _)).grown t2 (by omega) (fun j hj => by cases hj; exact Nat.le_refl _)⟩
theorem parse_why (a : Option Addr) (c : Nat) (arg : List Tok) (x : Itm) (w : World) (hT : Toks w a c arg) :
  Calls Tryz.prog 122 #[.slice a arg.length c] w fun e w' => Below w.heap.size w w' /\ ∃ y vb m vd, e = .returned (.tuple #[linV (.slice vb m vd) y.const, .int .i64 (whyOf (exprF arg x))]) /\ w'.ownsRow w.heap.size 61 2 (.slice vb m vd) y.terms.length (rowT y.terms) /\ (∀ x', exprF arg x = .ok x' -> x' = { x with e := y }) := by
 refine (parse_any a c arg w hT).mono ?_
 rintro e w' ⟨hb, hm⟩
 refine ⟨hb, ?_⟩
 unfold exprF
 cases hp : parseF arg with
 | error k =>
  rw [hp] at hm
  simp only at hm
  subst hm
  exact ⟨linE, none, 0, 0, rfl, ⟨by simp [linE, rowT], .inl ⟨rfl, rfl⟩⟩, fun x' h => by cases h⟩
 | ok y =>
  rw [hp] at hm
  obtain ⟨va, n, vc, rfl, ho⟩ := hm
  exact ⟨y, va, n, vc, rfl, ho, fun x' h => by cases h; rfl⟩
theorem readOne_expr (b : Nat) (wants : List UInt8) (x : Itm) (va : Option Addr) (n vc : Nat) (place : Nat) (hwc : atI (bs (str wants)) place = 101) (hpl : place < wants.length) (hws : wants.length <= 10) (a : Option Addr) (c : Nat) (arg : List Tok) (w : World) (hT : Toks w a c arg) (h : OpB w b wants x va n vc) :
  Calls Tryz.prog 167 #[.pointer (some ⟨b, 0, none⟩), .int .i64 (place : Int), .slice a arg.length c] w fun e w' => OneOut w b wants (stepF 101 place arg x) e w' := by
 have c0 := (h.cell 0).trans rfl
 have hlen : (str wants).size = wants.length := rfl
 have hget := atI_get (str wants) place (by omega)
 rw [hwc] at hget
 have hp := Hid.intro (parse_why a c arg x w hT)
 have hF : stepF 101 place arg x = exprF arg x := by unfold stepF; rw [if_neg (by omega), if_neg (by omega), if_neg (by omega)]
 rw [hF]
 have hH := Hid.intro h
 clear hT h hF hwc
 generalize exprF arg x = R at hp ⊢
 generalize arg.length = n0 at hp ⊢
 have hlt := hH.out.lt
 go_enter Tryz.func167, Tryz.ntmps167
 go_wp2_with (go_at_call 122; (with_reducible refine (hp.out).mono ?_); rintro e w1 ⟨hb1, y, vb, m, vd, rfl, ho, hx⟩; have hO1 := Hid.intro (hH.out.below hb1); have d8 := (hO1.out.cell 8).trans rfl; have d9 := (hO1.out.cell 9).trans rfl; have f8 := hO1.out.frozen 8; have f9 := hO1.out.frozen 9; have hE := Hid.intro (opb_expr hH.out hb1 y vb m vd ho))
 all_goals first | omega | skip
 go_ret
 refine ⟨rfl, hE.out.2, ?_⟩
 cases R with
 | error k => trivial
 | ok x' => rw [hx x' rfl]; exact ⟨_, _, _, hE.out.1⟩
end Go.Proofs.YtlkmegchaeokgaaGreatDoor
/- item's readOne: a literal; all of an operation's arguments. -/
namespace Go.Proofs.YtlkmegchaeokgaaGreatDoor
open Go.ChangeShapes Go.WideShapes Go.ChangeAt Go.RowKit
set_option linter.unusedVariables false
set_option maxRecDepth 100000
theorem Toks.tail {w : World} {gt o c : Nat} {t : Tok} {r : List Tok} (h : Toks w (some ⟨gt, o, none⟩) c (t :: r)) : (c = 1 -> r = [] /\ Toks w (some ⟨gt, o, none⟩) 0 r) /\ (c ≠ 1 -> Toks w (some ⟨gt, o + 4, none⟩) (c - 1) r) := by
 have hc := h.cap
 have hm := h.most
 have hf := h.few
 simp only [List.length_cons] at hc hf
 have ho := h.old _ rfl
 simp only at ho
 refine ⟨fun h1 => ?_, fun h1 => ?_⟩
 ·have hr : r = [] := by cases r with | nil => rfl | cons u r => simp at hc; omega
  subst hr
  exact ⟨rfl, .inl rfl, h.old, by simp, by omega, by simp, fun t ht => by cases ht⟩
 ·obtain ⟨g, o', ha, hg, _, ht⟩ := h.lies.head
  cases ha
  exact ⟨tokFrom_tail hg ht, fun x hx => by cases hx; exact ho, by omega, by omega, by omega, fun u hu => h.short u (List.mem_cons_of_mem _ hu)⟩
set_option maxHeartbeats 2000000 in
theorem readOne_lit (b : Nat) (wants : List UInt8) (x : Itm) (va : Option Addr) (n vc : Nat) (place : Nat) (hwc : atI (bs (str wants)) place = 61) (hpl : place < wants.length) (hws : wants.length <= 10) (a : Option Addr) (c : Nat) (arg : List Tok) (w : World) (hT : Toks w a c arg) (h : OpB w b wants x va n vc) :
  Calls Tryz.prog 167 #[.pointer (some ⟨b, 0, none⟩), .int .i64 (place : Int), .slice a arg.length c] w fun e w' => OneOut w b wants (stepF 61 place arg x) e w' := by
 have c0 := (h.cell 0).trans rfl
 have hlen : (str wants).size = wants.length := rfl
 have hget := atI_get (str wants) place (by omega)
 rw [hwc] at hget
 have hlt := h.lt
 have hH := Hid.intro h
 clear h hwc
 cases arg with
 | nil =>
  have hF : stepF 61 place [] x = .error 20 := by unfold stepF; rw [if_neg (by omega), if_neg (by omega), if_pos rfl]
  rw [hF]
  clear hT hF
  show Calls Tryz.prog 167 #[.pointer (some ⟨b, 0, none⟩), .int .i64 (place : Int), .slice a 0 c] w _
  go_enter Tryz.func167, Tryz.ntmps167
  go_wp2
  all_goals first | omega | skip
  go_ret
  exact ⟨rfl, Below.refl _ _, trivial⟩
 | cons t r =>
  have hF : stepF 61 place (t :: r) x = if isS t 61 = true then exprF r x else .error 20 := by unfold stepF; rw [if_neg (by omega), if_neg (by omega), if_pos rfl]
  rw [hF]
  obtain ⟨gt, o, rfl, hg, ⟨q0, q1, q2, q3⟩, _⟩ := hT.lies.head
  have htl := hT.tail
  have hcap := hT.cap
  have hmost := hT.most
  have hfew := hT.few
  simp only [List.length_cons] at hcap hfew ⊢
  clear hT hF
  obtain ⟨n1, hn1⟩ : ∃ n1, n1 = r.length := ⟨_, rfl⟩
  rw [<- hn1] at hcap hfew ⊢
  by_cases hk : t.kind = 3
  ·rw [hk] at q0
   by_cases htx : t.text = [61]
   ·rw [if_pos (by simp [isS, hk, htx])]
    rw [htx] at q1
    replace q1 : w.cell? ⟨gt, o + 1, none⟩ = some (.string ⟨#[61]⟩) := q1
    by_cases hc1 : c = 1
    ·obtain ⟨hr, hT2⟩ := htl.1 hc1
     have hp := Hid.intro (parse_why (some ⟨gt, o, none⟩) 0 r x w hT2)
     rw [<- hn1] at hp
     have hn0 : n1 = 0 := by rw [hn1, hr]; rfl
     subst hc1
     clear hn1 htl hT2 hr
     subst hn0
     generalize exprF r x = R at hp ⊢
     go_enter Tryz.func167, Tryz.ntmps167
     go_wp2_with (go_at_call 122; (with_reducible refine (hp.out).mono ?_); rintro e w1 ⟨hb1, y, vb, m, vd, rfl, ho, hx⟩; have hO1 := Hid.intro (hH.out.below hb1); have d8 := (hO1.out.cell 8).trans rfl; have d9 := (hO1.out.cell 9).trans rfl; have f8 := hO1.out.frozen 8; have f9 := hO1.out.frozen 9; have hE := Hid.intro (opb_expr hH.out hb1 y vb m vd ho))
     all_goals first | omega | skip
     go_ret
     refine ⟨rfl, hE.out.2, ?_⟩
     cases R with
     | error k => trivial
     | ok x' => rw [hx x' rfl]; exact ⟨_, _, _, hE.out.1⟩
    ·have hT2 := htl.2 hc1
     have hp := Hid.intro (parse_why (some ⟨gt, o + 4, none⟩) (c - 1) r x w hT2)
     rw [<- hn1] at hp
     clear hn1 htl hT2
     generalize exprF r x = R at hp ⊢
     have hc2 : 2 <= c := by omega
     go_enter Tryz.func167, Tryz.ntmps167
     go_wp2_with (go_at_call 122; (with_reducible refine (hp.out).mono ?_); rintro e w1 ⟨hb1, y, vb, m, vd, rfl, ho, hx⟩; have hO1 := Hid.intro (hH.out.below hb1); have d8 := (hO1.out.cell 8).trans rfl; have d9 := (hO1.out.cell 9).trans rfl; have f8 := hO1.out.frozen 8; have f9 := hO1.out.frozen 9; have hE := Hid.intro (opb_expr hH.out hb1 y vb m vd ho))
     all_goals first | omega | skip
     go_ret
     refine ⟨rfl, hE.out.2, ?_⟩
     cases R with
     | error k => trivial
     | ok x' => rw [hx x' rfl]; exact ⟨_, _, _, hE.out.1⟩
   ·rw [if_neg (by simp [isS, htx])]
    have hny : ((str t.text).toList == [61]) = false := by rw [str_toList]; exact beq_false_of_ne htx
    have hnz : (t.text == [61]) = false := beq_false_of_ne htx
    clear hn1 htl
    go_enter Tryz.func167, Tryz.ntmps167
    go_wp2
    all_goals first | omega | skip
    go_ret
    exact ⟨rfl, Below.refl _ _, trivial⟩
  ·rw [if_neg (by simp [isS, hk])]
   have hk' : (t.kind == 3) = false := by simp [hk]
   clear hn1 htl
   go_enter Tryz.func167, Tryz.ntmps167
   go_wp2
   all_goals first | omega | skip
   go_ret
   exact ⟨rfl, Below.refl _ _, trivial⟩
end Go.Proofs.YtlkmegchaeokgaaGreatDoor
/- item's reading of all of an operation's arguments. -/
namespace Go.Proofs.YtlkmegchaeokgaaGreatDoor
open Go.ChangeShapes Go.WideShapes Go.ChangeAt Go.RowKit
set_option linter.unusedVariables false
set_option maxRecDepth 100000
theorem Toks.low {w w' : World} {a : Option Addr} {c : Nat} {ts : List Tok} {B : Nat} (h : Toks w a c ts) (hy : ∀ y, a = some y -> y.block < B) (hb : Below B w w') (hB : B <= w.heap.size) : Toks w' a c ts := by
 refine ⟨?_, fun x hx => by have := hy x hx; have := hb.size; omega, h.cap, h.most, h.few, h.short⟩
 rcases h.lies with h1 | ⟨g, o, ha, hg, hl⟩
 ·exact .inl h1
 ·have hgB := hy _ ha
  refine .inr ⟨g, o, ha, by have := hb.size; omega, fun i t hi => ?_⟩
  obtain ⟨k0, k1, k2, k3⟩ := hl i t hi
  exact ⟨(hb.cell (p := ⟨g, o + i * 4, none⟩) hgB).trans k0, (hb.cell (p := ⟨g, o + i * 4 + 1, none⟩) hgB).trans k1, (hb.cell (p := ⟨g, o + i * 4 + 2, none⟩) hgB).trans k2, (hb.cell (p := ⟨g, o + i * 4 + 3, none⟩) hgB).trans k3⟩
structure ArgsIn (B : Nat) (w : World) (a : Option Addr) (acc : List (List Tok)) : Prop where
 outer : acc = [] ∨ ∃ G, a = some ⟨G, 0, none⟩ /\ G < B /\ ∀ (i : Nat) (xs : List Tok), acc[i]? = some xs -> ∃ a' c', w.cell? ⟨G, i, none⟩ = some (.slice a' xs.length c') /\ Toks w a' c' xs /\ ∀ y, a' = some y -> y.block < B
 size : B <= w.heap.size
theorem ArgsIn.below {B : Nat} {w w' : World} {a : Option Addr} {acc : List (List Tok)} (h : ArgsIn B w a acc) (hb : Below B w w') : ArgsIn B w' a acc := by
 refine ⟨?_, Nat.le_trans h.size hb.size⟩
 rcases h.outer with h1 | ⟨G, ha, hG, hl⟩
 ·exact .inl h1
 ·refine .inr ⟨G, ha, hG, fun i xs hi => ?_⟩
  obtain ⟨a', c', k1, k2, k3⟩ := hl i xs hi
  exact ⟨a', c', (hb.cell (p := ⟨G, i, none⟩) hG).trans k1, k2.low k3 hb h.size, k3⟩
theorem ArgsIn.mono {B B' : Nat} {w : World} {a : Option Addr} {acc : List (List Tok)} (h : ArgsIn B w a acc) (h1 : B <= B') (h2 : B' <= w.heap.size) : ArgsIn B' w a acc := by
 refine ⟨?_, h2⟩
 rcases h.outer with h3 | ⟨G, ha, hG, hl⟩
 ·exact .inl h3
 ·refine .inr ⟨G, ha, by omega, fun i xs hi => ?_⟩
  obtain ⟨a', c', k1, k2, k3⟩ := hl i xs hi
  exact ⟨a', c', k1, k2, fun y hy => by have := k3 y hy; omega⟩
theorem ArgsIn.at {B : Nat} {w : World} {a : Option Addr} {acc : List (List Tok)} (h : ArgsIn B w a acc) {i : Nat} {xs : List Tok} (hi : acc[i]? = some xs) : ∃ G a' c', a = some ⟨G, 0, none⟩ /\ G < B /\ w.cell? ⟨G, i, none⟩ = some (.slice a' xs.length c') /\ Toks w a' c' xs /\ ∀ y, a' = some y -> y.block < B := by
 rcases h.outer with h3 | ⟨G, ha, hG, hl⟩
 ·rw [h3] at hi; simp at hi
 ·obtain ⟨a', c', k1, k2, k3⟩ := hl i xs hi
  exact ⟨G, a', c', ha, hG, k1, k2, k3⟩
def opF (wants : List UInt8) : List (List Tok) -> Nat -> Itm -> Except Int Itm
 | [], _, x => .ok x
 | arg :: r, place, x =>
  match stepF (atI (bs (str wants)) place) place arg x with
  | .error k => .error k
  | .ok x' => opF wants r (place + 1) x'
theorem exprF_err {arg : List Tok} {x : Itm} {k : Int} (h : exprF arg x = .error k) : k = 20 ∨ k = 21 := by
 unfold exprF at h
 cases hp : parseF arg with
 | error e => rw [hp] at h; cases h; exact parseF_err hp
 | ok y => rw [hp] at h; cases h
theorem stepF_err {wc : Int} {place : Nat} {arg : List Tok} {x : Itm} {k : Int} (h : stepF wc place arg x = .error k) : k = 20 ∨ k = 21 := by
 unfold stepF at h
 split at h
 ·split at h
  ·cases h; exact .inl rfl
  ·cases h
 ·split at h
  ·split at h
   ·cases h; rename_i hc; exact constF_err hc
   ·split at h
    ·cases h
    ·cases h; exact .inr rfl
  ·split at h
   ·split at h
    ·cases h; exact .inl rfl
    ·split at h
     ·exact exprF_err h
     ·cases h; exact .inl rfl
   ·exact exprF_err h
def wantC (c : Int) : Prop := c = 114 ∨ c = 122 ∨ c = 110 ∨ c = 61 ∨ c = 101
theorem readOne_any (b : Nat) (wants : List UInt8) (x : Itm) (va : Option Addr) (n vc : Nat) (place : Nat) (hwc : wantC (atI (bs (str wants)) place)) (hpl : place < wants.length) (hws : wants.length <= 3) (a : Option Addr) (c : Nat) (arg : List Tok) (w : World) (hT : Toks w a c arg) (h : OpB w b wants x va n vc) (hTab : Tab w) (hb2 : 2 <= b) :
  Calls Tryz.prog 167 #[.pointer (some ⟨b, 0, none⟩), .int .i64 (place : Int), .slice a arg.length c] w fun e w' => OneOut w b wants (stepF (atI (bs (str wants)) place) place arg x) e w' := by
 rcases hwc with hc | hc | hc | hc | hc
 ·exact readOne_reg b wants x va n vc place _ rfl hpl (by omega) (by omega) a c arg w hT h (.inl hc)
 ·exact readOne_reg b wants x va n vc place _ rfl hpl (by omega) (by omega) a c arg w hT h (.inr hc)
 ·rw [hc]; exact readOne_const b wants x va n vc place hc hpl (by omega) a c arg w hT h hTab hb2
 ·rw [hc]; exact readOne_lit b wants x va n vc place hc hpl (by omega) a c arg w hT h
 ·rw [hc]; exact readOne_expr b wants x va n vc place hc hpl (by omega) a c arg w hT h
structure ORd (w : World) (b : Nat) (wants : List UInt8) (a : Option Addr) (args : List (List Tok)) (R0 : Except Int Itm) (i : Nat) (wr : World) : Prop where
 op : ∃ x va n vc, OpB wr b wants x va n vc /\ R0 = opF wants (args.drop i) i x
 bel : Below b w wr
 ins : ArgsIn b wr a args
 tab : Tab wr
set_option maxHeartbeats 1000000 in
theorem opRead_any (b : Nat) (wants : List UInt8) (x : Itm) (va : Option Addr) (n vc : Nat) (hwc : ∀ i, i < wants.length -> wantC (atI (bs (str wants)) i)) (hws : wants.length <= 3) (a : Option Addr) (c : Nat) (args : List (List Tok)) (hal : args.length = wants.length) (w : World) (hA : ArgsIn b w a args) (h : OpB w b wants x va n vc) (hTab : Tab w) (hb2 : 2 <= b) :
  Calls Tryz.prog 165 #[.pointer (some ⟨b, 0, none⟩), .slice a args.length c] w fun e w' => OneOut w b wants (opF wants args 0 x) e w' := by
 obtain ⟨R0, hR0⟩ : ∃ R0, R0 = opF wants args 0 x := ⟨_, rfl⟩
 have hst : Hid (ORd w b wants a args R0 0 w) := ⟨⟨x, va, n, vc, h, by rw [hR0]; rfl⟩, Below.refl _ _, hA, hTab⟩
 rw [<- hR0]
 clear hR0 h hTab hA
 obtain ⟨n0, hn0⟩ : ∃ n0, n0 = args.length := ⟨_, rfl⟩
 rw [<- hn0]
 have hn3 : n0 <= 3 := by omega
 replace hn0 := Hid.intro hn0
 replace hal := Hid.intro hal
 go_enter Tryz.func165, Tryz.ntmps165
 go_wp2
 go_loopw [10] (fun v10 wr => ∃ i : Nat, i <= n0 /\ v10 = .int .i64 (i : Int) /\ Hid (ORd w b wants a args R0 i wr)) (fun v10 wr => n0 - (intOf v10).toNat)
 case atStart => exact ⟨0, by omega, rfl, hst⟩
 case round =>
  clear hst
  obtain ⟨i, hi, rfl, hS⟩ := hrel
  by_cases hlt : i < n0
  ·obtain ⟨arg, harg⟩ : ∃ arg, args[i]? = some arg := ⟨args[i]'(by rw [<- hn0.out]; exact hlt), List.getElem?_eq_getElem _⟩
   obtain ⟨G, a', c', rfl, hG, hcell, hT, hy⟩ := hS.out.ins.at harg
   obtain ⟨y, vb, m, vd, hO, hR⟩ := hS.out.op
   have hlt2 : (i : Int) < (n0 : Int) := by omega
   have hone := readOne_any b wants y vb m vd i (hwc i (by have := hn0.out; have := hal.out; omega)) (by have := hn0.out; have := hal.out; omega) hws a' c' arg wr hT hO hS.out.tab hb2
   rw [drop_at args i arg harg, opF] at hR
   have hse := @stepF_err (atI (bs (str wants)) i) i arg y
   generalize stepF (atI (bs (str wants)) i) i arg y = R1 at hone hR hse
   generalize arg.length = ln at hone hcell
   cases R1 with
   | error k =>
    have hk0 : (k == 0) = false := by rcases hse rfl with rfl | rfl <;> rfl
    simp only at hR
    replace hR := Hid.intro hR
    clear hse harg hT hO
    simp only [OneOut, whyOf] at hone
    replace hone := Hid.intro hone
    go_wp2_with (go_at_call 167; (with_reducible refine (hone.out).mono ?_); rintro e w1 ⟨rfl, hb1, _⟩)
    all_goals first | omega | skip
    go_ret
    rw [hR.out]
    exact ⟨rfl, hS.out.bel.trans hb1, trivial⟩
   | ok y' =>
    simp only at hR
    replace hR := Hid.intro hR
    clear hse harg hT hO
    simp only [OneOut, whyOf] at hone
    replace hone := Hid.intro hone
    go_wp2_with (go_at_call 167; (with_reducible refine (hone.out).mono ?_); rintro e w1 ⟨rfl, hb1, hO1⟩)
    all_goals first | omega | skip
    go_roundw
    case rel =>
     obtain ⟨v1, n1, c1, hO1⟩ := hO1
     exact ⟨i + 1, by omega, by go_num, Hid.intro ⟨⟨y', v1, n1, c1, hO1, hR.out⟩, hS.out.bel.trans hb1, hS.out.ins.below hb1, hS.out.tab.below hb1 hb2⟩⟩
    case measure => simp [intOf]; omega
  ·have hin : i = n0 := by omega
   have hdr : args.drop i = [] := List.drop_eq_nil_of_le (by rw [<- hn0.out]; omega)
   have hfin : Hid (∃ x va n vc, OpB wr b wants x va n vc /\ R0 = .ok x) := by
    obtain ⟨y, vb, m, vd, hO, hR⟩ := hS.out.op
    exact ⟨y, vb, m, vd, hO, by rw [hR, hdr]; rfl⟩
   clear hdr
   subst hin
   have hlt3 : ¬ ((i : Int) < (i : Int)) := by omega
   go_wp2
   all_goals first | omega | skip
   go_ret
   obtain ⟨y, vb, m, vd, hO, hR⟩ := hfin.out
   rw [hR]
   exact ⟨rfl, hS.out.bel, vb, m, vd, hO⟩
end Go.Proofs.YtlkmegchaeokgaaGreatDoor
/- item's readerOf, said, Read of an operation's line. -/
namespace Go.Proofs.YtlkmegchaeokgaaGreatDoor
open Go.ChangeShapes Go.WideShapes Go.ChangeAt Go.RowKit
set_option linter.unusedVariables false
set_option maxRecDepth 100000
def dirs : List (List UInt8) := [[97, 108, 105, 103, 110], [112, 111, 111, 108], [98, 121, 116, 101], [119, 111, 114, 100], [115, 112, 97, 99, 101], [101, 113, 117], [103, 108, 111, 98, 97, 108], [115, 101, 99, 116, 105, 111, 110]]
def opItm (n : Int) : Itm := { itmE with kind := 2, op := n }
theorem dirs_ne {s : List UInt8} (h : s ∉ dirs) : ((str s).toList == [97, 108, 105, 103, 110]) = false /\ ((str s).toList == [112, 111, 111, 108]) = false /\ ((str s).toList == [98, 121, 116, 101]) = false /\ ((str s).toList == [119, 111, 114, 100]) = false /\ ((str s).toList == [115, 112, 97, 99, 101]) = false /\ ((str s).toList == [101, 113, 117]) = false /\ ((str s).toList == [103, 108, 111, 98, 97, 108]) = false /\ ((str s).toList == [115, 101, 99, 116, 105, 111, 110]) = false := by
 rw [str_toList]
 simp only [dirs, List.mem_cons, List.not_mem_nil, or_false, not_or] at h
 obtain ⟨h1, h2, h3, h4, h5, h6, h7, h8⟩ := h
 exact ⟨beq_false_of_ne h1, beq_false_of_ne h2, beq_false_of_ne h3, beq_false_of_ne h4, beq_false_of_ne h5, beq_false_of_ne h6, beq_false_of_ne h7, beq_false_of_ne h8⟩
theorem wants_len (s : Int) : (wantsF s).length <= 3 := by
 unfold wantsF
 (repeat' split) <;> simp
theorem readerOf_op (s : List UInt8) (hd : s ∉ dirs) (hf : 1 <= findN s) (hf2 : findN s <= 43) (w : World) (hT : Tab w) :
  Calls Tryz.prog 42 #[.string (str s)] w fun e w' => Below w.heap.size w w' /\ ∃ b, w.heap.size <= b /\ e = .returned (.tuple #[.iface 141 (.pointer (some ⟨b, 0, none⟩)), .int .i64 (wantsF (shapeN (findN s))).length, .int .i64 (wantsF (shapeN (findN s))).length]) /\ OpB w' b (wantsF (shapeN (findN s))) (opItm (findN s)) none 0 0 := by
 obtain ⟨d1, d2, d3, d4, d5, d6, d7, d8⟩ := dirs_ne hd
 have hfind := find_any (str s) w hT
 have hnm : nm (str s) = s := by simp [nm, str]
 rw [hnm] at hfind
 generalize findN s = N at hf hf2 hfind ⊢
 rw [show decide (N > 0) = true from by simp; omega] at hfind
 replace hfind := Hid.intro hfind
 have hat := at_parts N w hT
 rw [show decide (1 <= N /\ N <= 43) = true from by simp; omega] at hat
 replace hat := Hid.intro hat
 have hwant := Hid.intro (fun w1 => wanted_any (shapeN N) w1)
 have hwl := wants_len (shapeN N)
 generalize wantsF (shapeN N) = W at hwant hwl ⊢
 generalize shapeN N = S at hat hwant
 have hsz : (str W).size = W.length := rfl
 clear hnm hT
 go_enter Tryz.func42, Tryz.ntmps42
 go_wp2_with (first | (go_at_call 72; (with_reducible refine (hfind.out).mono ?_); rintro e w1 ⟨rfl, rfl⟩) | (go_at_call 73; (with_reducible refine (hat.out).mono ?_); rintro e w2 ⟨⟨s2, b2, rfl⟩, hb2⟩) | (go_at_call 74; (with_reducible refine (hwant.out _).mono ?_); rintro e w3 ⟨rfl, rfl⟩))
 all_goals first | omega | skip
 go_ret3
 have hs1 : (w2.alloc (Obj.cells #[Value.string (istr s2), Value.int IntKind.u8 b2, Value.int IntKind.i64 S] 137)).heap.size = w2.heap.size + 1 := by simp
 have hs2 := hb2.size
 refine ⟨(hb2.alloc (by omega) _).alloc (by omega) _, w2.heap.size + 1, by omega, rfl, ⟨?_, ⟨by simp [opItm, itmE, linE, rowT], .inl ⟨rfl, rfl⟩⟩⟩⟩
 rw [<- hs1]
 exact heap_alloc_new _ _
structure ItAt (w : World) (g o : Nat) (x : Itm) (va : Option Addr) (n vc : Nat) : Prop where
 kind : w.cell? ⟨g, o, none⟩ = some (.int .i64 x.kind)
 name : w.cell? ⟨g, o + 1, none⟩ = some (.string (str x.name))
 op : w.cell? ⟨g, o + 2, none⟩ = some (.int .i64 x.op)
 a : w.cell? ⟨g, o + 3, none⟩ = some (.int .i64 x.a)
 b : w.cell? ⟨g, o + 4, none⟩ = some (.int .i64 x.b)
 m : w.cell? ⟨g, o + 5, none⟩ = some (.int .i32 x.m)
 form : w.cell? ⟨g, o + 6, none⟩ = some (.int .i64 x.form)
 terms : w.cell? ⟨g, o + 7, none⟩ = some (.slice va n vc)
 const : w.cell? ⟨g, o + 8, none⟩ = some (.int .u32 x.e.const)
 n : w.cell? ⟨g, o + 9, none⟩ = some (.int .i64 x.n)
abbrev itmCells (x : Itm) (v : Value) : Array Value := #[.int .i64 x.kind, .string (str x.name), .int .i64 x.op, .int .i64 x.a, .int .i64 x.b, .int .i32 x.m, .int .i64 x.form, v, .int .u32 x.e.const, .int .i64 x.n]
abbrev thgV (k : Int) (vi : Value) (nm : List UInt8) (ve : Value) (c sec : Int) : Value := .agg #[.int .i64 k, vi, .string (str nm), ve, .int .u32 c, .int .i64 sec]
theorem assert_op (a : Addr) (w : World) : (Instr.typeAssert (.iface 141 (.pointer (some a))) 89 141 true).run Tryz.prog w = .ok (.tuple #[.pointer (some a), .bool true]) w := by kernel_rfl
theorem said_op (b : Nat) (wants : List UInt8) (x : Itm) (va : Option Addr) (n vc : Nat) (w : World) (h : OpB w b wants x va n vc) :
  Calls Tryz.prog 43 #[.iface 141 (.pointer (some ⟨b, 0, none⟩))] w fun e w' => Below w.heap.size w w' /\ ∃ q, w.heap.size < q /\ e = .returned (thgV 1 (.slice (some ⟨q, 0, none⟩) 1 1) [] (.slice none 0 0) 0 0) /\ w'.heap[q]? = some (.cells (itmCells x (.slice va n vc)) 33 (0, 0)) := by
 have hc := fun j => h.cell j
 have c1 := (hc 1).trans rfl
 have c2 := (hc 2).trans rfl
 have c3 := (hc 3).trans rfl
 have c4 := (hc 4).trans rfl
 have c5 := (hc 5).trans rfl
 have c6 := (hc 6).trans rfl
 have c7 := (hc 7).trans rfl
 have c8 := (hc 8).trans rfl
 have c9 := (hc 9).trans rfl
 have c10 := (hc 10).trans rfl
 have hlt := h.lt
 clear hc h
 have hta := fun a w => assert_op a w
 go_enter Tryz.func43, Tryz.ntmps43
 go_wp2
 all_goals first | omega | skip
 have hB : Below w.heap.size w ((w.alloc (.cells #[.int .i64 1, .slice (some ⟨w.heap.size + 1, 0, none⟩) 1 1, .string ⟨#[]⟩, .slice none 0 0, .int .u32 0, .int .i64 0] 37)).alloc (.cells (itmCells x (.slice va n vc)) 33)) := (below_alloc w _).alloc (by simp) _
 have hs1 : (w.alloc (.cells #[.int .i64 1, .slice (some ⟨w.heap.size + 1, 0, none⟩) 1 1, .string ⟨#[]⟩, .slice none 0 0, .int .u32 0, .int .i64 0] 37)).heap.size = w.heap.size + 1 := by simp
 have hq := heap_alloc_new (w.alloc (.cells #[.int .i64 1, .slice (some ⟨w.heap.size + 1, 0, none⟩) 1 1, .string ⟨#[]⟩, .slice none 0 0, .int .u32 0, .int .i64 0] 37)) (.cells (itmCells x (.slice va n vc)) 33)
 rw [hs1] at hq
 have hr : ((w.alloc (.cells #[.int .i64 1, .slice (some ⟨w.heap.size + 1, 0, none⟩) 1 1, .string ⟨#[]⟩, .slice none 0 0, .int .u32 0, .int .i64 0] 37)).alloc (.cells (itmCells x (.slice va n vc)) 33)).heap[w.heap.size]? = some (.cells #[.int .i64 1, .slice (some ⟨w.heap.size + 1, 0, none⟩) 1 1, .string ⟨#[]⟩, .slice none 0 0, .int .u32 0, .int .i64 0] 37 (0, 0)) := by
  rw [Below.heap_alloc _ _ _ (by omega)]
  exact heap_alloc_new w _
 generalize ((w.alloc (.cells #[.int .i64 1, .slice (some ⟨w.heap.size + 1, 0, none⟩) 1 1, .string ⟨#[]⟩, .slice none 0 0, .int .u32 0, .int .i64 0] 37)).alloc (.cells (itmCells x (.slice va n vc)) 33)) = w9 at hB hq hr ⊢
 have k0 := (cell_blockT hr 0).trans rfl
 have k1 := (cell_blockT hr 1).trans rfl
 have k2 := (cell_blockT hr 2).trans rfl
 have k3 := (cell_blockT hr 3).trans rfl
 have k4 := (cell_blockT hr 4).trans rfl
 have k5 := (cell_blockT hr 5).trans rfl
 refine bodyPost_ret (by simp [results, Tryz.results43, go_sem, k0, k1, k2, k3, k4, k5]; try rfl) rfl ?_
 exact ⟨hB, w.heap.size + 1, by omega, rfl, hq⟩
end Go.Proofs.YtlkmegchaeokgaaGreatDoor
namespace Go.Proofs.YtlkmegchaeokgaaGreatDoor
open Go.ChangeShapes Go.WideShapes Go.ChangeAt Go.RowKit
set_option linter.unusedVariables false
set_option maxRecDepth 100000
def ItemsLie (w : World) (vi : Value) (l : List Itm) : Prop := (l = [] /\ vi = .slice none 0 0) ∨ ∃ q c, vi = .slice (some ⟨q, 0, none⟩) l.length c /\ q < w.heap.size /\ ∀ (i : Nat) (x : Itm), l[i]? = some x -> ∃ va n vc, ItAt w q (i * 10) x va n vc /\ n = x.e.terms.length /\ TmLies w va x.e.terms
abbrev thgZ : Value := thgV 0 (.slice none 0 0) [] (.slice none 0 0) 0 0
def ThOut (w' : World) (R : Except Int Thg) (e : Ending) : Prop :=
 match R with
 | .error k => e = .returned (.tuple #[thgZ, .int .i64 k])
 | .ok t => ∃ vi va n vc, e = .returned (.tuple #[thgV t.kind vi t.name (.slice va n vc) t.e.const t.sec, .int .i64 0]) /\ ItemsLie w' vi t.items /\ n = t.e.terms.length /\ TmLies w' va t.e.terms
def opThg (s : List UInt8) (args : List (List Tok)) (sec : Int) : Except Int Thg :=
 if args.length ≠ (wantsF (shapeN (findN s))).length then .error 20
 else match opF (wantsF (shapeN (findN s))) args 0 (opItm (findN s)) with
  | .error k => .error k
  | .ok x => if standsB x.kind sec = true then .ok ⟨1, [x], [], linE, 0⟩ else .error 21
theorem nil_op (a : Addr) (w : World) : (binOp .eql 89 (.iface 141 (.pointer (some a))) .nilIface).run Tryz.prog w = .ok (.bool false) w := by kernel_rfl
theorem six_set {w : World} {g : Nat} {c0 c1 c2 c3 c4 c5 : Value} (h : w.heap[g]? = some (.cells #[c0, c1, c2, c3, c4, c5] 37 (0, 0))) (v0 v1 v2 v3 v4 v5 : Value) :
  ((((((w.setCell ⟨g, 0, none⟩ v0).setCell ⟨g, 1, none⟩ v1).setCell ⟨g, 2, none⟩ v2).setCell ⟨g, 3, none⟩ v3).setCell ⟨g, 4, none⟩ v4).setCell ⟨g, 5, none⟩ v5).heap[g]? = some (.cells #[v0, v1, v2, v3, v4, v5] 37 (0, 0)) /\ w.grownBy ((((((w.setCell ⟨g, 0, none⟩ v0).setCell ⟨g, 1, none⟩ v1).setCell ⟨g, 2, none⟩ v2).setCell ⟨g, 3, none⟩ v3).setCell ⟨g, 4, none⟩ v4).setCell ⟨g, 5, none⟩ v5) (some g) := by
 obtain ⟨a0, b0⟩ := row_set h 0 v0
 obtain ⟨a1, b1⟩ := row_set a0 1 v1
 obtain ⟨a2, b2⟩ := row_set a1 2 v2
 obtain ⟨a3, b3⟩ := row_set a2 3 v3
 obtain ⟨a4, b4⟩ := row_set a3 4 v4
 obtain ⟨a5, b5⟩ := row_set a4 5 v5
 refine ⟨?_, grown_trans (grown_trans (grown_trans (grown_trans (grown_trans b0 b1) b2) b3) b4) b5⟩
 rw [a5]
 rfl
theorem thing_ret {w w8 w9 : World} {v0 v1 v2 v3 v4 v5 : Value} (h : w9.heap[w.heap.size + 1]? = some (.cells #[v0, v1, v2, v3, v4, v5] 37 (0, 0))) : w9.cell? ⟨w.heap.size + 1, 0, none⟩ = some v0 /\ w9.cell? ⟨w.heap.size + 1, 1, none⟩ = some v1 /\ w9.cell? ⟨w.heap.size + 1, 2, none⟩ = some v2 /\ w9.cell? ⟨w.heap.size + 1, 3, none⟩ = some v3 /\ w9.cell? ⟨w.heap.size + 1, 4, none⟩ = some v4 /\ w9.cell? ⟨w.heap.size + 1, 5, none⟩ = some v5 :=
 ⟨(cell_blockT h 0).trans rfl, (cell_blockT h 1).trans rfl, (cell_blockT h 2).trans rfl, (cell_blockT h 3).trans rfl, (cell_blockT h 4).trans rfl, (cell_blockT h 5).trans rfl⟩
abbrev zero6 : Array Value := #[.int .i64 0, .slice none 0 0, .string ⟨#[]⟩, .slice none 0 0, .int .u32 0, .int .i64 0]
abbrev thing6 (q : Nat) : Array Value := #[.int .i64 1, .slice (some ⟨q, 0, none⟩) 1 1, .string (str []), .slice none 0 0, .int .u32 0, .int .i64 0]
structure RStI (w : World) (b : Nat) (x : Itm) (va : Option Addr) (n vc q p : Nat) (wr : World) : Prop where
 bel : Below w.heap.size w wr
 res : wr.heap[w.heap.size + 1]? = some (.cells zero6 37 (0, 0))
 thing : wr.heap[p]? = some (.cells (thing6 q) 37 (0, 0))
 item : wr.heap[q]? = some (.cells (itmCells x (.slice va n vc)) 33 (0, 0))
 own : wr.ownsRow (b + 1) 61 2 (.slice va n vc) x.e.terms.length (rowT x.e.terms)
 lo : w.heap.size + 2 <= b
theorem blk_lt {w : World} {g : Nat} {o : Obj} (h : w.heap[g]? = some o) : g < w.heap.size := (Array.getElem?_eq_some_iff.1 h).1
theorem RStI.below {w : World} {b : Nat} {x : Itm} {va : Option Addr} {n vc q p : Nat} {wr w' : World} (h : RStI w b x va n vc q p wr) (hb : Below wr.heap.size wr w') : RStI w b x va n vc q p w' :=
 ⟨h.bel.trans (hb.mono h.bel.size), by rw [hb.block _ (blk_lt h.res)]; exact h.res, by rw [hb.block _ (blk_lt h.thing)]; exact h.thing, by rw [hb.block _ (blk_lt h.item)]; exact h.item, own_low h.own (grown_wide (grown_of_below hb) (some b)) (by omega), h.lo⟩
theorem itAt_row {w : World} {g : Nat} {x : Itm} {va : Option Addr} {n vc : Nat} (h : w.heap[g]? = some (.cells (itmCells x (.slice va n vc)) 33 (0, 0))) : ItAt w g 0 x va n vc := by
 have key := fun j => cell_blockT h j
 exact ⟨key 0, key 1, key 2, key 3, key 4, key 5, key 6, key 7, key 8, key 9⟩
theorem opF_err {wants : List UInt8} {args : List (List Tok)} : ∀ {place : Nat} {x : Itm} {k : Int}, opF wants args place x = .error k -> k = 20 ∨ k = 21 := by
 induction args with
 | nil => intro place x k h; cases h
 | cons arg r ih =>
  intro place x k h
  rw [opF] at h
  cases hs : stepF (atI (bs (str wants)) place) place arg x with
  | error e => rw [hs] at h; cases h; exact stepF_err hs
  | ok x' => rw [hs] at h; exact ih h
theorem wants_ok (s : Int) : ∀ i, i < (wantsF s).length -> wantC (atI (bs (str (wantsF s))) i) := by
 have key : ∀ l : List UInt8, (l.all fun c => c == 114 || c == 122 || c == 110 || c == 61 || c == 101) = true -> ∀ i, i < l.length -> wantC (atI (bs (str l)) i) := by
  intro l hl i hi
  have h1 : atI (bs (str l)) i = ((l[i].toNat : Nat) : Int) := by simp [atI, bs, str, List.getD_eq_getElem?_getD, hi]
  rw [h1]
  have h2 := List.all_eq_true.1 hl l[i] (List.getElem_mem hi)
  simp only [Bool.or_eq_true, beq_iff_eq] at h2
  unfold wantC
  rcases h2 with (((h | h) | h) | h) | h <;> rw [h] <;> simp
 apply key
 unfold wantsF
 (repeat' split) <;> rfl
set_option maxHeartbeats 1000000 in
theorem read_op (lb s : List UInt8) (hd : s ∉ dirs) (hf : 1 <= findN s) (hf2 : findN s <= 43) (hs0 : s ≠ []) (a : Option Addr) (c : Nat) (args : List (List Tok)) (hal : args.length <= 1100000) (sec : Int) (w : World) (hA : ArgsIn w.heap.size w a args) (hT : Tab w) :
  Calls Tryz.prog 17 #[.agg #[.string (str lb), .string (str s), .slice a args.length c], .int .i64 sec] w fun e w' => Below w.heap.size w w' /\ ThOut w' (opThg s args sec) e := by
 have hne : ((str s).toList == []) = false := by rw [str_toList]; exact beq_false_of_ne hs0
 have hnl : ∀ a w, (binOp .eql 89 (.iface 141 (.pointer (some a))) .nilIface).run Tryz.prog w = .ok (.bool false) w := nil_op
 have hT0 : Tab ((w.alloc (.cells #[.string (str lb), .string (str s), .slice a args.length c] 49)).alloc (.cells #[.int .i64 0, .slice none 0 0, .string ⟨#[]⟩, .slice none 0 0, .int .u32 0, .int .i64 0] 37)) := ((hT.alloc _).alloc _)
 have hro := Hid.intro (readerOf_op s hd hf hf2 _ hT0)
 have hF : opThg s args sec = if args.length ≠ (wantsF (shapeN (findN s))).length then .error 20 else match opF (wantsF (shapeN (findN s))) args 0 (opItm (findN s)) with | .error k => .error k | .ok x => if standsB x.kind sec = true then .ok ⟨1, [x], [], linE, 0⟩ else .error 21 := rfl
 rw [hF]
 have hwl := wants_len (shapeN (findN s))
 clear hF hT0
 generalize hW : wantsF (shapeN (findN s)) = W at hro hwl ⊢
 obtain ⟨n0, hn0⟩ : ∃ n0, n0 = args.length := ⟨_, rfl⟩
 rw [<- hn0] at hal hro ⊢
 replace hn0 := Hid.intro hn0
 replace hW := Hid.intro hW
 have hwB : ∀ w1, Below ((w.alloc (.cells #[.string (str lb), .string (str s), .slice a n0 c] 49)).alloc (.cells #[.int .i64 0, .slice none 0 0, .string ⟨#[]⟩, .slice none 0 0, .int .u32 0, .int .i64 0] 37)).heap.size ((w.alloc (.cells #[.string (str lb), .string (str s), .slice a n0 c] 49)).alloc (.cells #[.int .i64 0, .slice none 0 0, .string ⟨#[]⟩, .slice none 0 0, .int .u32 0, .int .i64 0] 37)) w1 -> Below w.heap.size w w1 /\ w.heap.size + 2 <= w1.heap.size := fun w1 h1 => by
  have hq := h1.size
  have hq2 : ((w.alloc (.cells #[.string (str lb), .string (str s), .slice a n0 c] 49)).alloc (.cells #[.int .i64 0, .slice none 0 0, .string ⟨#[]⟩, .slice none 0 0, .int .u32 0, .int .i64 0] 37)).heap.size = w.heap.size + 2 := by simp
  exact ⟨((below_alloc w _).alloc (by simp) _).trans (h1.mono (by omega)), by omega⟩
 replace hwB := Hid.intro hwB
 by_cases hlen : n0 = W.length
 ·rw [if_neg (by simp [hlen])]
  have g1 : ¬ n0 < W.length := by omega
  have g2 : ¬ W.length < n0 := by omega
  replace hlen := Hid.intro hlen
  go_enter Tryz.func17, Tryz.ntmps17
  have hok := wants_ok (shapeN (findN s))
  rw [hW.out] at hok
  have hlen2 : args.length = W.length := by rw [<- hn0.out]; exact hlen.out
  have hT1 : ∀ w1, Below w.heap.size w w1 -> Tab w1 := fun w1 h1 => hT.below h1 hT.size
  have hsz2 := hT.size
  have hrd : Hid (∀ w1, Below ((w.alloc (.cells #[.string (str lb), .string (str s), .slice a n0 c] 49)).alloc (.cells #[.int .i64 0, .slice none 0 0, .string ⟨#[]⟩, .slice none 0 0, .int .u32 0, .int .i64 0] 37)).heap.size ((w.alloc (.cells #[.string (str lb), .string (str s), .slice a n0 c] 49)).alloc (.cells #[.int .i64 0, .slice none 0 0, .string ⟨#[]⟩, .slice none 0 0, .int .u32 0, .int .i64 0] 37)) w1 -> ∀ b, ((w.alloc (.cells #[.string (str lb), .string (str s), .slice a n0 c] 49)).alloc (.cells #[.int .i64 0, .slice none 0 0, .string ⟨#[]⟩, .slice none 0 0, .int .u32 0, .int .i64 0] 37)).heap.size <= b -> OpB w1 b W (opItm (findN s)) none 0 0 -> Calls Tryz.prog 165 #[.pointer (some ⟨b, 0, none⟩), .slice a n0 c] w1 fun e w' => OneOut w1 b W (opF W args 0 (opItm (findN s))) e w') := fun w1 h1 b hb hO => by
   obtain ⟨hw1, hw2⟩ := hwB.out w1 h1
   have hb' : w.heap.size + 2 <= b := by simpa using hb
   have := opRead_any b W (opItm (findN s)) none 0 0 hok hwl a c args hlen2 w1 ((hA.below hw1).mono (by omega) (by have := hO.lt; omega)) hO (hT1 w1 hw1) (by omega)
   rwa [<- hn0.out] at this
  clear hok hlen2
  have hoe := @opF_err W args 0 (opItm (findN s))
  generalize opF W args 0 (opItm (findN s)) = R at hrd hoe ⊢
  cases R with
  | error k =>
   simp only [OneOut, whyOf] at hrd
   have hk : k = 20 ∨ k = 21 := hoe rfl
   clear hoe
   have hk0 : (k == 0) = false := by rcases hk with rfl | rfl <;> rfl
   go_wp2_with (first | (go_at_call 42; (with_reducible refine (hro.out).mono ?_); rintro e w1 ⟨hb1, b, hb, rfl, hO⟩; have hs1 := hb1.size; replace hO := Hid.intro hO; have hl1 := fun j => (cell_blockT (show w1.heap[w.heap.size]? = some (.cells #[.string (str lb), .string (str s), .slice a n0 c] 49 (0, 0)) from (by rw [hb1.block _ (by simp; omega), Below.heap_alloc _ _ _ (by simp)]; exact heap_alloc_new w _)) j); have l1 := (hl1 1).trans rfl; have l2 := (hl1 2).trans rfl; clear hl1; have hr1 : Hid (w1.heap[w.heap.size + 1]? = some (.cells #[.int .i64 0, .slice none 0 0, .string ⟨#[]⟩, .slice none 0 0, .int .u32 0, .int .i64 0] 37 (0, 0))) := (by show _ = _; rw [hb1.block _ (by simp)]; have := heap_alloc_new (w.alloc (.cells #[.string (str lb), .string (str s), .slice a n0 c] 49)) (.cells #[.int .i64 0, .slice none 0 0, .string ⟨#[]⟩, .slice none 0 0, .int .u32 0, .int .i64 0] 37); rwa [show (w.alloc (.cells #[.string (str lb), .string (str s), .slice a n0 c] 49)).heap.size = w.heap.size + 1 by simp] at this); have rc := fun j => cell_blockT hr1.out j; have rc0 := (rc 0).trans rfl; have rc1 := (rc 1).trans rfl; have rc2 := (rc 2).trans rfl; have rc3 := (rc 3).trans rfl; have rc4 := (rc 4).trans rfl; have rc5 := (rc 5).trans rfl; clear rc; have rf := fun j => frozen_of_row w1 (w.heap.size + 1) j _ 37 hr1.out) | (go_at_call 165; (with_reducible refine (hrd.out w1 hb1 b hb hO.out).mono ?_); rintro e w2 ⟨rfl, hb2, hO2⟩; have hs2 := hb2.size; have hr2 : Hid (w2.heap[w.heap.size + 1]? = some (.cells #[.int .i64 0, .slice none 0 0, .string ⟨#[]⟩, .slice none 0 0, .int .u32 0, .int .i64 0] 37 (0, 0))) := (by show _ = _; rw [hb2.block _ (by simp at hb; omega)]; exact hr1.out); have rd := fun j => cell_blockT hr2.out j; have rd0 := (rd 0).trans rfl; have rd1 := (rd 1).trans rfl; have rd2 := (rd 2).trans rfl; have rd3 := (rd 3).trans rfl; have rd4 := (rd 4).trans rfl; have rd5 := (rd 5).trans rfl; clear rd; have rg := fun j => frozen_of_row w2 (w.heap.size + 1) j _ 37 hr2.out))
   all_goals first | omega | skip
   obtain ⟨hw1, hw2⟩ := hwB.out w1 hb1
   have hw3 : Below w.heap.size w w2 := hw1.trans (hb2.mono (by simp at hb; omega))
   obtain ⟨s1, s2⟩ := six_set hr2.out (.int .i64 0) (.slice none 0 0) (.string ⟨#[]⟩) (.slice none 0 0) (.int .u32 0) (.int .i64 0)
   have hB9 := (hw3).grown s2 (by omega) (fun j hj => by cases hj; omega)
   generalize ((((((w2.setCell ⟨w.heap.size + 1, 0, none⟩ (.int .i64 0)).setCell ⟨w.heap.size + 1, 1, none⟩ (.slice none 0 0)).setCell ⟨w.heap.size + 1, 2, none⟩ (.string ⟨#[]⟩)).setCell ⟨w.heap.size + 1, 3, none⟩ (.slice none 0 0)).setCell ⟨w.heap.size + 1, 4, none⟩ (.int .u32 0)).setCell ⟨w.heap.size + 1, 5, none⟩ (.int .i64 0)) = w9 at s1 s2 hB9 ⊢
   obtain ⟨k0, k1, k2, k3, k4, k5⟩ := thing_ret (w8 := w9) s1
   refine bodyPost_ret (by simp [results, Tryz.results17, go_sem, k0, k1, k2, k3, k4, k5]; try rfl) rfl ?_
   exact ⟨hB9, rfl⟩
  | ok x =>
   simp only [OneOut, whyOf] at hrd
   clear hoe
   go_upto_region 10 with (first | (go_at_call 42; (with_reducible refine (hro.out).mono ?_); rintro e w1 ⟨hb1, b, hb, rfl, hO⟩; have hs1 := hb1.size; replace hO := Hid.intro hO; have hl1 := fun j => (cell_blockT (show w1.heap[w.heap.size]? = some (.cells #[.string (str lb), .string (str s), .slice a n0 c] 49 (0, 0)) from (by rw [hb1.block _ (by simp; omega), Below.heap_alloc _ _ _ (by simp)]; exact heap_alloc_new w _)) j); have l1 := (hl1 1).trans rfl; have l2 := (hl1 2).trans rfl; clear hl1; have hr1 : Hid (w1.heap[w.heap.size + 1]? = some (.cells #[.int .i64 0, .slice none 0 0, .string ⟨#[]⟩, .slice none 0 0, .int .u32 0, .int .i64 0] 37 (0, 0))) := (by show _ = _; rw [hb1.block _ (by simp)]; have := heap_alloc_new (w.alloc (.cells #[.string (str lb), .string (str s), .slice a n0 c] 49)) (.cells #[.int .i64 0, .slice none 0 0, .string ⟨#[]⟩, .slice none 0 0, .int .u32 0, .int .i64 0] 37); rwa [show (w.alloc (.cells #[.string (str lb), .string (str s), .slice a n0 c] 49)).heap.size = w.heap.size + 1 by simp] at this); have rc := fun j => cell_blockT hr1.out j; have rc0 := (rc 0).trans rfl; have rc1 := (rc 1).trans rfl; have rc2 := (rc 2).trans rfl; have rc3 := (rc 3).trans rfl; have rc4 := (rc 4).trans rfl; have rc5 := (rc 5).trans rfl; clear rc; have rf := fun j => frozen_of_row w1 (w.heap.size + 1) j _ 37 hr1.out) | (go_at_call 165; (with_reducible refine (hrd.out w1 hb1 b hb hO.out).mono ?_); rintro e w2 ⟨rfl, hb2, hO2⟩; have hs2 := hb2.size; have hr2 : Hid (w2.heap[w.heap.size + 1]? = some (.cells #[.int .i64 0, .slice none 0 0, .string ⟨#[]⟩, .slice none 0 0, .int .u32 0, .int .i64 0] 37 (0, 0))) := (by show _ = _; rw [hb2.block _ (by simp at hb; omega)]; exact hr1.out); have rd := fun j => cell_blockT hr2.out j; have rd0 := (rd 0).trans rfl; have rd1 := (rd 1).trans rfl; have rd2 := (rd 2).trans rfl; have rd3 := (rd 3).trans rfl; have rd4 := (rd 4).trans rfl; have rd5 := (rd 5).trans rfl; clear rd; have rg := fun j => frozen_of_row w2 (w.heap.size + 1) j _ 37 hr2.out; obtain ⟨va, n, vc, hO3⟩ := hO2; replace hO3 := Hid.intro hO3) | (go_at_call 43; (with_reducible refine (said_op b W x va n vc w2 hO3.out).mono ?_); rintro e w3 ⟨hb3, q, hq, rfl, hqh⟩))
   all_goals first | omega | skip
   obtain ⟨hw1, hw2⟩ := hwB.out w1 hb1
   have hbb : w.heap.size + 2 <= b := by simpa using hb
   have hOlt := hO3.out.lt
   have hs3 := hb3.size
   have hB3 : Below w.heap.size w w3 := (hw1.trans (hb2.mono (by omega))).trans (hb3.mono (by omega))
   have hS : RStI w b x va n vc q w3.heap.size (w3.alloc (.cells (thing6 q) 37)) :=
    ⟨hB3.alloc hB3.size _, by rw [Below.heap_alloc _ _ _ (by omega), hb3.block _ (by omega)]; exact hr2.out, heap_alloc_new w3 _, by rw [Below.heap_alloc _ _ _ (blk_lt hqh)]; exact hqh, (own_low hO3.out.own (grown_wide (grown_of_below hb3) (some b)) (by omega)).alloc _, hbb⟩
   generalize hp : w3.heap.size = p at hS ⊢
   generalize (w3.alloc (.cells (thing6 q) 37)) = w4 at hS ⊢
   clear rd0 rd1 rd2 rd3 rd4 rd5 rg rc0 rc1 rc2 rc3 rc4 rc5 rf l1 l2 hr1 hr2 hqh hO3 hb3 hb2 hb1 hO hro hrd hwB hp hB3
   replace hS := Hid.intro hS
   have t1 := (cell_blockT hS.out.thing 1).trans rfl
   go_wp2
   all_goals first | omega | skip
   clear t1
   have hst := Hid.intro (fun w1 => stands_any x.kind sec w1)
   go_loopw [54] (fun v54 wr => ∃ i : Nat, i <= 1 /\ v54 = .int .i64 (i : Int) /\ (i = 1 -> standsB x.kind sec = true) /\ Hid (RStI w b x va n vc q p wr)) (fun v54 wr => 1 - (intOf v54).toNat)
   case atStart => exact ⟨0, by omega, rfl, fun h => by omega, hS⟩
   case round =>
    clear hS
    obtain ⟨i, hi, rfl, hi1, hS⟩ := hrel
    have hlo := hS.out.lo
    by_cases hi0 : i = 0
    ·subst hi0
     obtain ⟨c0, c1, c2, c3, c4, c5, c6, c7, c8, c9⟩ := itAt_row hS.out.item
     have hal := Hid.intro (fun o => hS.out.below (below_alloc wr o))
     have r0 := fun o => (cell_blockT (hal.out o).res 0).trans rfl
     have r1 := fun o => (cell_blockT (hal.out o).res 1).trans rfl
     have r2 := fun o => (cell_blockT (hal.out o).res 2).trans rfl
     have r3 := fun o => (cell_blockT (hal.out o).res 3).trans rfl
     have r4 := fun o => (cell_blockT (hal.out o).res 4).trans rfl
     have r5 := fun o => (cell_blockT (hal.out o).res 5).trans rfl
     have rf := fun o j => frozen_of_row (wr.alloc o) (w.heap.size + 1) j _ 37 (hal.out o).res
     cases hsb : standsB x.kind sec
     ·rw [hsb] at hst
      go_wp2_with (go_at_call 23; (with_reducible refine (hst.out _).mono ?_); rintro e w5 ⟨rfl, rfl⟩)
      all_goals first | omega | skip
      have hal2 := hal.out (.cells (itmCells x (.slice va n vc)) 33)
      have hbs := hal2.bel.size
      obtain ⟨s1, s2⟩ := six_set hal2.res (.int .i64 0) (.slice none 0 0) (.string ⟨#[]⟩) (.slice none 0 0) (.int .u32 0) (.int .i64 0)
      have hB9 := (hal2.bel).grown s2 (by omega) (fun j hj => by cases hj; omega)
      generalize (((((((wr.alloc (.cells (itmCells x (.slice va n vc)) 33)).setCell ⟨w.heap.size + 1, 0, none⟩ (.int .i64 0)).setCell ⟨w.heap.size + 1, 1, none⟩ (.slice none 0 0)).setCell ⟨w.heap.size + 1, 2, none⟩ (.string ⟨#[]⟩)).setCell ⟨w.heap.size + 1, 3, none⟩ (.slice none 0 0)).setCell ⟨w.heap.size + 1, 4, none⟩ (.int .u32 0)).setCell ⟨w.heap.size + 1, 5, none⟩ (.int .i64 0)) = w9 at s1 s2 hB9 ⊢
      obtain ⟨k0, k1, k2, k3, k4, k5⟩ := thing_ret (w8 := w9) s1
      refine bodyPost_ret (by simp [results, Tryz.results17, go_sem, k0, k1, k2, k3, k4, k5]; try rfl) rfl ?_
      exact ⟨hB9, rfl⟩
     ·rw [hsb] at hst
      go_wp2_with (go_at_call 23; (with_reducible refine (hst.out _).mono ?_); rintro e w5 ⟨rfl, rfl⟩)
      all_goals first | omega | skip
      go_roundw
      case rel => exact ⟨1, by omega, by go_num, fun _ => by first | exact hsb | trivial, Hid.intro (hal.out _)⟩
      case measure => simp [intOf]
    ·have hie : i = 1 := by omega
     subst hie
     have hsb := hi1 rfl
     have t := fun j => cell_blockT hS.out.thing j
     have t0 := (t 0).trans rfl
     have t1 := (t 1).trans rfl
     have t2 := (t 2).trans rfl
     have t3 := (t 3).trans rfl
     have t4 := (t 4).trans rfl
     have t5 := (t 5).trans rfl
     have r0 := (cell_blockT hS.out.res 0).trans rfl
     have r1 := (cell_blockT hS.out.res 1).trans rfl
     have r2 := (cell_blockT hS.out.res 2).trans rfl
     have r3 := (cell_blockT hS.out.res 3).trans rfl
     have r4 := (cell_blockT hS.out.res 4).trans rfl
     have r5 := (cell_blockT hS.out.res 5).trans rfl
     have rf := fun j => frozen_of_row wr (w.heap.size + 1) j _ 37 hS.out.res
     clear t
     go_wp2
     all_goals first | omega | skip
     obtain ⟨s1, s2⟩ := six_set hS.out.res (.int .i64 1) (.slice (some ⟨q, 0, none⟩) 1 1) (.string (str [])) (.slice none 0 0) (.int .u32 0) (.int .i64 0)
     have hbs := hS.out.bel.size
     have hrl := blk_lt hS.out.res
     have hql := blk_lt hS.out.item
     have hB9 := (hS.out.bel).grown s2 (by omega) (fun j hj => by cases hj; omega)
     have hown9 := own_low hS.out.own s2 (by omega)
     have hqn : q ≠ w.heap.size + 1 := fun e => by
      have h1 := hS.out.item
      rw [e, hS.out.res] at h1
      injection h1 with h1
      injection h1 with _ h1
      cases h1
     have hit9 : (((((((wr.setCell ⟨w.heap.size + 1, 0, none⟩ (.int .i64 1)).setCell ⟨w.heap.size + 1, 1, none⟩ (.slice (some ⟨q, 0, none⟩) 1 1)).setCell ⟨w.heap.size + 1, 2, none⟩ (.string (str []))).setCell ⟨w.heap.size + 1, 3, none⟩ (.slice none 0 0)).setCell ⟨w.heap.size + 1, 4, none⟩ (.int .u32 0)).setCell ⟨w.heap.size + 1, 5, none⟩ (.int .i64 0))).heap[q]? = some (.cells (itmCells x (.slice va n vc)) 33 (0, 0)) := by
      rw [s2.block q hql (by simp [hqn])]; exact hS.out.item
     generalize ((((((wr.setCell ⟨w.heap.size + 1, 0, none⟩ (.int .i64 1)).setCell ⟨w.heap.size + 1, 1, none⟩ (.slice (some ⟨q, 0, none⟩) 1 1)).setCell ⟨w.heap.size + 1, 2, none⟩ (.string (str []))).setCell ⟨w.heap.size + 1, 3, none⟩ (.slice none 0 0)).setCell ⟨w.heap.size + 1, 4, none⟩ (.int .u32 0)).setCell ⟨w.heap.size + 1, 5, none⟩ (.int .i64 0)) = w9 at s1 s2 hB9 hown9 hit9 ⊢
     obtain ⟨k0, k1, k2, k3, k4, k5⟩ := thing_ret (w8 := w9) s1
     refine bodyPost_ret (by simp [results, Tryz.results17, go_sem, k0, k1, k2, k3, k4, k5]; try rfl) rfl ?_
     refine ⟨hB9, ?_⟩
     refine ⟨.slice (some ⟨q, 0, none⟩) 1 1, none, 0, 0, rfl, .inr ⟨q, 1, rfl, blk_lt hit9, fun j y hj => ?_⟩, rfl, TmLies.nil _ _⟩
     match j, hj with
     | 0, hj =>
      cases hj
      have hnl := own_len hown9
      subst hnl
      exact ⟨va, _, vc, itAt_row hit9, rfl, own_tmLies hown9⟩
     | j + 1, hj => simp at hj
 ·rw [if_pos hlen]
  rcases Nat.lt_or_gt_of_ne hlen with hl | hl
  ·go_enter Tryz.func17, Tryz.ntmps17
   go_wp2_with (go_at_call 42; (with_reducible refine (hro.out).mono ?_); rintro e w1 ⟨hb1, b, hb, rfl, hO⟩; have hs1 := hb1.size; replace hO := Hid.intro hO; have hl1 := fun j => (cell_blockT (show w1.heap[w.heap.size]? = some (.cells #[.string (str lb), .string (str s), .slice a n0 c] 49 (0, 0)) from (by rw [hb1.block _ (by simp; omega), Below.heap_alloc _ _ _ (by simp)]; exact heap_alloc_new w _)) j); have l1 := (hl1 1).trans rfl; have l2 := (hl1 2).trans rfl; clear hl1; have hr1 : Hid (w1.heap[w.heap.size + 1]? = some (.cells #[.int .i64 0, .slice none 0 0, .string ⟨#[]⟩, .slice none 0 0, .int .u32 0, .int .i64 0] 37 (0, 0))) := (by show _ = _; rw [hb1.block _ (by simp)]; have := heap_alloc_new (w.alloc (.cells #[.string (str lb), .string (str s), .slice a n0 c] 49)) (.cells #[.int .i64 0, .slice none 0 0, .string ⟨#[]⟩, .slice none 0 0, .int .u32 0, .int .i64 0] 37); rwa [show (w.alloc (.cells #[.string (str lb), .string (str s), .slice a n0 c] 49)).heap.size = w.heap.size + 1 by simp] at this); have rc := fun j => cell_blockT hr1.out j; have rc0 := (rc 0).trans rfl; have rc1 := (rc 1).trans rfl; have rc2 := (rc 2).trans rfl; have rc3 := (rc 3).trans rfl; have rc4 := (rc 4).trans rfl; have rc5 := (rc 5).trans rfl; clear rc; have rf := fun j => frozen_of_row w1 (w.heap.size + 1) j _ 37 hr1.out)
   all_goals first | omega | skip
   obtain ⟨hw1, hw2⟩ := hwB.out w1 hb1
   obtain ⟨s1, s2⟩ := six_set hr1.out (.int .i64 0) (.slice none 0 0) (.string ⟨#[]⟩) (.slice none 0 0) (.int .u32 0) (.int .i64 0)
   have hB9 := (hw1).grown s2 (by omega) (fun j hj => by cases hj; omega)
   generalize ((((((w1.setCell ⟨w.heap.size + 1, 0, none⟩ (.int .i64 0)).setCell ⟨w.heap.size + 1, 1, none⟩ (.slice none 0 0)).setCell ⟨w.heap.size + 1, 2, none⟩ (.string ⟨#[]⟩)).setCell ⟨w.heap.size + 1, 3, none⟩ (.slice none 0 0)).setCell ⟨w.heap.size + 1, 4, none⟩ (.int .u32 0)).setCell ⟨w.heap.size + 1, 5, none⟩ (.int .i64 0)) = w9 at s1 s2 hB9 ⊢
   obtain ⟨k0, k1, k2, k3, k4, k5⟩ := thing_ret (w8 := w9) s1
   refine bodyPost_ret (by simp [results, Tryz.results17, go_sem, k0, k1, k2, k3, k4, k5]; try rfl) rfl ?_
   exact ⟨hB9, rfl⟩
  ·go_enter Tryz.func17, Tryz.ntmps17
   have hl2 : ¬ n0 < W.length := by omega
   go_wp2_with (go_at_call 42; (with_reducible refine (hro.out).mono ?_); rintro e w1 ⟨hb1, b, hb, rfl, hO⟩; have hs1 := hb1.size; replace hO := Hid.intro hO; have hl1 := fun j => (cell_blockT (show w1.heap[w.heap.size]? = some (.cells #[.string (str lb), .string (str s), .slice a n0 c] 49 (0, 0)) from (by rw [hb1.block _ (by simp; omega), Below.heap_alloc _ _ _ (by simp)]; exact heap_alloc_new w _)) j); have l1 := (hl1 1).trans rfl; have l2 := (hl1 2).trans rfl; clear hl1; have hr1 : Hid (w1.heap[w.heap.size + 1]? = some (.cells #[.int .i64 0, .slice none 0 0, .string ⟨#[]⟩, .slice none 0 0, .int .u32 0, .int .i64 0] 37 (0, 0))) := (by show _ = _; rw [hb1.block _ (by simp)]; have := heap_alloc_new (w.alloc (.cells #[.string (str lb), .string (str s), .slice a n0 c] 49)) (.cells #[.int .i64 0, .slice none 0 0, .string ⟨#[]⟩, .slice none 0 0, .int .u32 0, .int .i64 0] 37); rwa [show (w.alloc (.cells #[.string (str lb), .string (str s), .slice a n0 c] 49)).heap.size = w.heap.size + 1 by simp] at this); have rc := fun j => cell_blockT hr1.out j; have rc0 := (rc 0).trans rfl; have rc1 := (rc 1).trans rfl; have rc2 := (rc 2).trans rfl; have rc3 := (rc 3).trans rfl; have rc4 := (rc 4).trans rfl; have rc5 := (rc 5).trans rfl; clear rc; have rf := fun j => frozen_of_row w1 (w.heap.size + 1) j _ 37 hr1.out)
   all_goals first | omega | skip
   obtain ⟨hw1, hw2⟩ := hwB.out w1 hb1
   obtain ⟨s1, s2⟩ := six_set hr1.out (.int .i64 0) (.slice none 0 0) (.string ⟨#[]⟩) (.slice none 0 0) (.int .u32 0) (.int .i64 0)
   have hB9 := (hw1).grown s2 (by omega) (fun j hj => by cases hj; omega)
   generalize ((((((w1.setCell ⟨w.heap.size + 1, 0, none⟩ (.int .i64 0)).setCell ⟨w.heap.size + 1, 1, none⟩ (.slice none 0 0)).setCell ⟨w.heap.size + 1, 2, none⟩ (.string ⟨#[]⟩)).setCell ⟨w.heap.size + 1, 3, none⟩ (.slice none 0 0)).setCell ⟨w.heap.size + 1, 4, none⟩ (.int .u32 0)).setCell ⟨w.heap.size + 1, 5, none⟩ (.int .i64 0)) = w9 at s1 s2 hB9 ⊢
   obtain ⟨k0, k1, k2, k3, k4, k5⟩ := thing_ret (w8 := w9) s1
   refine bodyPost_ret (by simp [results, Tryz.results17, go_sem, k0, k1, k2, k3, k4, k5]; try rfl) rfl ?_
   exact ⟨hB9, rfl⟩
end Go.Proofs.YtlkmegchaeokgaaGreatDoor
