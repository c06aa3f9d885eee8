/- What a line says, as a function on its tokens: the small ones. -/
import Derived.Test.YtlkmegchaeokgaaGreatDoorParseM
import Derived.Test.YtlkmegchaeokgaaGreatDoorNames3
import Derived.Test.YtlkmegchaeokgaaGreatDoorIFind
namespace Go.Proofs.YtlkmegchaeokgaaGreatDoor
open Go.ChangeShapes Go.WideShapes Go.ChangeAt Go.RowKit
set_option linter.unusedVariables false
set_option maxRecDepth 100000
structure Itm where
 kind : Int
 name : List UInt8
 op : Int
 a : Int
 b : Int
 m : Int
 form : Int
 e : Lin
 n : Int
structure Thg where
 kind : Int
 items : List Itm
 name : List UInt8
 e : Lin
 sec : Int
def linE : Lin := ⟨[], 0⟩
def itmE : Itm := ⟨0, [], 0, 0, 0, 0, 0, linE, 0⟩
def thgE : Thg := ⟨0, [], [], linE, 0⟩
def wordF : List Tok -> List UInt8
 | [t] => if t.kind = 1 then t.text else []
 | _ => []
def regF (arg : List Tok) (z : Bool) : Option Int :=
 if (isR (str (wordF arg)) || isZ (str (wordF arg))) = true /\ isZ (str (wordF arg)) = z then some (regN (str (wordF arg))) else none
def i32F (n : Int) : Int := if n < 2147483648 then n else n - 4294967296
def constF (arg : List Tok) : Except Int Int :=
 match parseF arg with
 | .error e => .error e
 | .ok x => if x.terms.length = 0 then .ok (i32F x.const) else .error 21
def numOfB (kind n : Int) : Bool :=
 if kind = 3 then decide (n = 1 ∨ n = 2 ∨ n = 4 ∨ n = 8 ∨ n = 16 ∨ n = 32 ∨ n = 64 ∨ n = 128 ∨ n = 256)
 else if kind = 5 then decide (-128 <= n /\ n <= 255)
 else if kind = 7 then decide (0 <= n /\ n <= 1048576)
 else decide (n = 0)
def numF (kind : Int) (arg : List Tok) : Except Int Int :=
 match constF arg with
 | .error e => .error e
 | .ok n => if numOfB kind n = true then .ok n else .error 21
def standsB (kind sec : Int) : Bool :=
 if kind = 1 ∨ kind = 3 then true
 else if kind = 2 ∨ kind = 4 then decide (sec ≠ 1)
 else if kind = 5 ∨ kind = 6 ∨ kind = 7 then decide (sec = 1)
 else false
def nameF (arg : List Tok) : Except Int (List UInt8) := if legB (str (wordF arg)) = true then .ok (wordF arg) else .error 20
def wantsF (s : Int) : List UInt8 :=
 if s = 2 then [114] else if s = 3 then [122] else if s = 4 then [114, 114] else if s = 5 then [122, 122] else if s = 6 then [114, 122] else if s = 7 then [122, 114, 114]
 else if s = 8 then [114, 110] else if s = 9 then [110] else if s = 10 ∨ s = 13 then [114, 101] else if s = 11 then [114, 61] else if s = 12 then [101] else []
theorem stands_any (k s : Int) (w : World) :
  Calls Tryz.prog 23 #[.int .i64 k, .int .i64 s] w fun e w' => e = .returned (.bool (standsB k s)) /\ w' = w := by
 by_cases h1 : k = 1
 ·subst h1; go_enter Tryz.func23, Tryz.ntmps23; go_wp2; go_ret; exact ⟨rfl, rfl⟩
 by_cases h3 : k = 3
 ·subst h3; go_enter Tryz.func23, Tryz.ntmps23; go_wp2; go_ret; exact ⟨rfl, rfl⟩
 by_cases h2 : k = 2
 ·subst h2; go_enter Tryz.func23, Tryz.ntmps23; go_wp2; go_ret; exact ⟨by simp [standsB]; try rfl, rfl⟩
 by_cases h4 : k = 4
 ·subst h4; go_enter Tryz.func23, Tryz.ntmps23; go_wp2; go_ret; exact ⟨by simp [standsB]; try rfl, rfl⟩
 by_cases h5 : k = 5
 ·subst h5; go_enter Tryz.func23, Tryz.ntmps23; go_wp2; go_ret; exact ⟨by simp [standsB]; try rfl, rfl⟩
 by_cases h6 : k = 6
 ·subst h6; go_enter Tryz.func23, Tryz.ntmps23; go_wp2; go_ret; exact ⟨by simp [standsB]; try rfl, rfl⟩
 by_cases h7 : k = 7
 ·subst h7; go_enter Tryz.func23, Tryz.ntmps23; go_wp2; go_ret; exact ⟨by simp [standsB]; try rfl, rfl⟩
 have hs : standsB k s = false := by simp [standsB, h1, h2, h3, h4, h5, h6, h7]
 rw [hs]
 go_enter Tryz.func23, Tryz.ntmps23
 go_wp2
 go_ret
 exact ⟨rfl, rfl⟩
theorem and_small : ∀ m : Fin 257, 1 <= m.val -> (bits BinOp.and IntKind.i64 (m.val : Int) ((m.val : Int) - 1) == 0) = numOfB 3 (m.val : Int) := by decide +kernel
theorem wanted_any (s : Int) (w : World) :
  Calls Tryz.prog 74 #[.int .i64 s] w fun e w' => e = .returned (.string (str (wantsF s))) /\ w' = w := by
 by_cases h : 2 <= s /\ s <= 13
 ·have : s = 2 ∨ s = 3 ∨ s = 4 ∨ s = 5 ∨ s = 6 ∨ s = 7 ∨ s = 8 ∨ s = 9 ∨ s = 10 ∨ s = 11 ∨ s = 12 ∨ s = 13 := by omega
  rcases this with rfl | rfl | rfl | rfl | rfl | rfl | rfl | rfl | rfl | rfl | rfl | rfl
  all_goals (go_enter Tryz.func74, Tryz.ntmps74; go_wp2; go_ret; exact ⟨rfl, rfl⟩)
 ·have hw : wantsF s = [] := by
   unfold wantsF
   rw [if_neg (by omega), if_neg (by omega), if_neg (by omega), if_neg (by omega), if_neg (by omega), if_neg (by omega), if_neg (by omega), if_neg (by omega), if_neg (by omega), if_neg (by omega), if_neg (by omega)]
  rw [hw]
  have g2 : (s == 2) = false := by simp; omega
  have g3 : (s == 3) = false := by simp; omega
  have g4 : (s == 4) = false := by simp; omega
  have g5 : (s == 5) = false := by simp; omega
  have g6 : (s == 6) = false := by simp; omega
  have g7 : (s == 7) = false := by simp; omega
  have g8 : (s == 8) = false := by simp; omega
  have g9 : (s == 9) = false := by simp; omega
  have g10 : (s == 10) = false := by simp; omega
  have g11 : (s == 11) = false := by simp; omega
  have g12 : (s == 12) = false := by simp; omega
  have g13 : (s == 13) = false := by simp; omega
  go_enter Tryz.func74, Tryz.ntmps74
  go_wp2
  go_ret
  exact ⟨rfl, rfl⟩
theorem isNumberOf_any (k n : Int) (w : World) (hn : -9223372036854775808 <= n /\ n <= 9223372036854775807) :
  Calls Tryz.prog 27 #[.int .i64 k, .int .i64 n] w fun e w' => e = .returned (.bool (numOfB k n)) /\ w' = w := by
 by_cases h3 : k = 3
 ·subst h3
  by_cases h1 : 1 <= n
  ·by_cases h2 : n <= 256
   ·go_enter Tryz.func27, Tryz.ntmps27
    go_wp2
    go_ret
    refine ⟨?_, rfl⟩
    have hm : (n.toNat : Int) = n := by omega
    have := and_small ⟨n.toNat, by omega⟩ (by show 1 <= n.toNat; omega)
    simp only [hm] at this
    rw [<- this]
    rfl
   ·have hz : numOfB 3 n = false := by simp [numOfB]; omega
    rw [hz]
    go_enter Tryz.func27, Tryz.ntmps27
    go_wp2
    go_ret
    exact ⟨rfl, rfl⟩
  ·have hz : numOfB 3 n = false := by simp [numOfB]; omega
   rw [hz]
   go_enter Tryz.func27, Tryz.ntmps27
   go_wp2
   go_ret
   exact ⟨rfl, rfl⟩
 by_cases h5 : k = 5
 ·subst h5
  have hz : numOfB 5 n = (decide (-128 <= n) && decide (n <= 255)) := by simp [numOfB]
  rw [hz]
  by_cases h1 : -128 <= n
  ·go_enter Tryz.func27, Tryz.ntmps27
   go_wp2
   go_ret
   exact ⟨by simp [h1]; try rfl, rfl⟩
  ·have hf : decide (-128 <= n) = false := by simp [h1]
   rw [hf, Bool.false_and]
   go_enter Tryz.func27, Tryz.ntmps27
   go_wp2
   go_ret
   exact ⟨rfl, rfl⟩
 by_cases h7 : k = 7
 ·subst h7
  have hz : numOfB 7 n = (decide (0 <= n) && decide (n <= 1048576)) := by simp [numOfB]
  rw [hz]
  by_cases h1 : 0 <= n
  ·go_enter Tryz.func27, Tryz.ntmps27
   go_wp2
   go_ret
   exact ⟨by simp [h1]; try rfl, rfl⟩
  ·have hf : decide (0 <= n) = false := by simp [h1]
   rw [hf, Bool.false_and]
   go_enter Tryz.func27, Tryz.ntmps27
   go_wp2
   go_ret
   exact ⟨rfl, rfl⟩
 have hz : numOfB k n = decide (n = 0) := by simp [numOfB, h3, h5, h7]
 rw [hz]
 go_enter Tryz.func27, Tryz.ntmps27
 go_wp2
 go_ret
 exact ⟨by simp; try rfl, rfl⟩
end Go.Proofs.YtlkmegchaeokgaaGreatDoor
