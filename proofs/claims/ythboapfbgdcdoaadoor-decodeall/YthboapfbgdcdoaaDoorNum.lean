/- decode's number, high and low. -/
import Derived.Test.YthboapfbgdcdoaaDoorHead
import Derived.Test.YthboapfbgdcdoaaDoorOGet
namespace Go.Proofs.YthboapfbgdcdoaaDoor
open Go.ChangeShapes Go.WideShapes Go.ChangeAt Go.RowKit
set_option linter.unusedVariables false
set_option maxRecDepth 100000

theorem and15 (c : Int) (h0 : 0 ≤ c) (h1 : c ≤ 255) : bits .and .u8 c 15 = c % 16 := by
  have : ∀ k : Fin 256, bits .and .u8 ((k.1 : Nat) : Int) 15 = ((k.1 : Nat) : Int) % 16 := by decide +kernel
  have := this ⟨c.toNat, by omega⟩
  simp only at this
  rwa [show ((c.toNat : Nat) : Int) = c by omega] at this

theorem high_any (c : Int) (h0 : 0 ≤ c) (h1 : c ≤ 255) (w : World) : Calls Tryd.prog 20 #[.int .u8 c] w fun e w' => e = .returned (.int .i64 (c / 16)) ∧ w' = w := by
  have e1 : c / 2 ^ 4 = c / 16 := by simp
  go_enter Tryd.func20, Tryd.ntmps20
  go_wp2
  go_ret
  exact ⟨congrArg (fun z => Ending.returned (Value.int .i64 z)) (by omega), rfl⟩
theorem low_any (c : Int) (h0 : 0 ≤ c) (h1 : c ≤ 255) (w : World) : Calls Tryd.prog 21 #[.int .u8 c] w fun e w' => e = .returned (.int .i64 (c % 16)) ∧ w' = w := by
  have e1 := and15 c h0 h1
  go_enter Tryd.func21, Tryd.ntmps21
  go_wp2
  go_ret
  exact ⟨congrArg (fun z => Ending.returned (Value.int .i64 z)) (by omega), rfl⟩

theorem get_whole (a : Option Addr) (cap m : Nat) (zs : List Int) (w : World) (hm : m = zs.length) (hl : Lies w a zs) (hw : m = 1 ∨ m = 2 ∨ m = 4) :
    Calls Tryd.prog 37 #[.slice a m cap, .int .i64 0, .int .i64 (m : Int)] w fun e w' => e = .returned (.tuple #[.int .u32 (leN zs), .int .i64 0]) ∧ w' = w := by
  subst hm
  refine (get_any a cap zs 0 zs.length w hl (by unfold maxLen; omega) (by omega)).mono fun e w' ⟨he, hw'⟩ => ⟨?_, hw'⟩
  have hi : isW (zs.length : Int) = true := by rcases hw with h | h | h <;> rw [h] <;> rfl
  have e1 : getE zs 0 zs.length = 0 := by rw [getE, if_neg (by rw [hi]; simp), if_neg (by omega)]
  have e2 : getN zs 0 zs.length = leN zs := by rw [getN, if_pos e1]; simp
  rw [he, e1, e2]

/-- the number that bytes tell in shape s -/
def numI (s : Int) (zs : List Int) : Int := if s = 9 ∨ s = 11 then wrap32 (leN zs) else sgn (leN zs) zs.length

theorem number_any (a : Option Addr) (cap m : Nat) (zs : List Int) (s : Int) (w : World) (hm : m = zs.length) (hl : Lies w a zs) (hw : m = 1 ∨ m = 2 ∨ m = 4) :
    Calls Tryd.prog 19 #[.slice a m cap, .int .i64 s] w fun e w' => e = .returned (.int .i32 (numI s zs)) ∧ w' = w := by
  have hG := Hid.intro (get_whole a cap m zs w hm hl hw)
  have hwH := Hid.intro hw
  obtain ⟨R, hR⟩ : ∃ R, R = numI s zs := ⟨_, rfl⟩
  rw [← hR]
  rw [numI, ← hm] at hR
  generalize leN zs = N at *
  clear hl hm hw
  have hm4 : (m : Int) ≤ 4 := by have := hwH.out; omega
  by_cases h9 : s = 9
  · subst h9
    rw [if_pos (.inl rfl)] at hR
    subst hR
    go_enter Tryd.func19, Tryd.ntmps19
    go_wp2_with (go_at_call 37; (with_reducible refine hG.out.mono ?_); rintro e w1 ⟨rfl, rfl⟩)
    go_ret
    exact ⟨rfl, rfl⟩
  · have e9 : (s == 9) = false := by simpa using h9
    by_cases h11 : s = 11
    · subst h11
      rw [if_pos (.inr rfl)] at hR
      subst hR
      go_enter Tryd.func19, Tryd.ntmps19
      go_wp2_with (go_at_call 37; (with_reducible refine hG.out.mono ?_); rintro e w1 ⟨rfl, rfl⟩)
      go_ret
      exact ⟨rfl, rfl⟩
    · have e11 : (s == 11) = false := by simpa using h11
      rw [if_neg (by omega)] at hR
      have hSg : Hid (∀ W, Calls Tryd.prog 38 #[.int .u32 N, .int .i64 (m : Int)] W fun e w' => e = .returned (.int .i32 R) ∧ w' = W) := by
        show ∀ W, _
        rw [hR]
        exact fun W => signed_any N m W
      clear hR
      go_enter Tryd.func19, Tryd.ntmps19
      go_wp2_with (first
        | (go_at_call 37; (with_reducible refine hG.out.mono ?_); rintro e w1 ⟨rfl, rfl⟩)
        | (go_at_call 38; (with_reducible refine (hSg.out _).mono ?_); rintro e w1 ⟨rfl, rfl⟩))
      go_ret
      exact ⟨rfl, rfl⟩
end Go.Proofs.YthboapfbgdcdoaaDoor
