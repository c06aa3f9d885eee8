/- Contracts of octet's small functions that only compute: isWidth, Signed, Fits, and the document's Signed and Fits. -/
import Derived.Test.YthboapfbgdcdoaaDoorOLies
namespace Go.Proofs.YthboapfbgdcdoaaDoor
open Go.ChangeShapes Go.WideShapes Go.ChangeAt Go.RowKit
set_option linter.unusedVariables false

/-- the number with its sign that the lowest m bytes of n are -/
def sgn (n m : Int) : Int := if m = 1 then wrap32 (IntKind.i8.wrap n) else if m = 2 then wrap32 (IntKind.i16.wrap n) else if m = 4 then wrap32 n else 0

theorem signed_any (n m : Int) (w : World) :
    Calls Tryd.prog 38 #[.int .u32 n, .int .i64 m] w fun e w' => e = .returned (.int .i32 (sgn n m)) ∧ w' = w := by
  by_cases h1 : m = 1
  · subst h1
    go_enter Tryd.func38, Tryd.ntmps38
    go_wp2
    go_ret
    exact ⟨rfl, rfl⟩
  · have e1 : (m == 1) = false := by simpa using h1
    by_cases h2 : m = 2
    · subst h2
      go_enter Tryd.func38, Tryd.ntmps38
      go_wp2
      go_ret
      exact ⟨rfl, rfl⟩
    · have e2 : (m == 2) = false := by simpa using h2
      by_cases h4 : m = 4
      · subst h4
        go_enter Tryd.func38, Tryd.ntmps38
        go_wp2
        go_ret
        exact ⟨rfl, rfl⟩
      · have e4 : (m == 4) = false := by simpa using h4
        have hs : sgn n m = 0 := by simp [sgn, h1, h2, h4]
        rw [hs]
        go_enter Tryd.func38, Tryd.ntmps38
        go_wp2
        go_ret
        exact ⟨rfl, rfl⟩

theorem refSigned_any (n m : Int) (w : World) :
    Calls Tryd.prog 44 #[.int .u32 n, .int .i64 m] w fun e w' => e = .returned (.int .i32 (sgn n m)) ∧ w' = w := by
  by_cases h1 : m = 1
  · subst h1
    go_enter Tryd.func44, Tryd.ntmps44
    go_wp2
    go_ret
    exact ⟨rfl, rfl⟩
  · have e1 : (m == 1) = false := by simpa using h1
    by_cases h2 : m = 2
    · subst h2
      go_enter Tryd.func44, Tryd.ntmps44
      go_wp2
      go_ret
      exact ⟨rfl, rfl⟩
    · have e2 : (m == 2) = false := by simpa using h2
      by_cases h4 : m = 4
      · subst h4
        go_enter Tryd.func44, Tryd.ntmps44
        go_wp2
        go_ret
        exact ⟨rfl, rfl⟩
      · have e4 : (m == 4) = false := by simpa using h4
        have hs : sgn n m = 0 := by simp [sgn, h1, h2, h4]
        rw [hs]
        go_enter Tryd.func44, Tryd.ntmps44
        go_wp2
        go_ret
        exact ⟨rfl, rfl⟩

end Go.Proofs.YthboapfbgdcdoaaDoor
