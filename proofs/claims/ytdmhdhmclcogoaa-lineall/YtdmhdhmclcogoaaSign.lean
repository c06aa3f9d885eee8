/- line.isSign, and the document's sign. -/
import Derived.Test.YtdmhdhmclcogoaaLineM
import Derived.Test.YtdmhdhmclcogoaaSame
namespace Go.Proofs.Ytdmhdhmclcogoaa
open Go.ChangeShapes Go.WideShapes Go.ChangeAt Go.RowKit
set_option linter.unusedVariables false
set_option maxRecDepth 100000

/-- a token as a value -/
abbrev tokV (t : Tok) : Value := .agg #[.int .i64 t.kind, .string (str t.text), .int .u32 t.num, .int .i64 (t.place : Int)]

theorem lineSign_any (t : Tok) (c : UInt8) (w : World) :
    Calls Try.prog 37 #[tokV t, .string ⟨#[c]⟩] w fun e w' => e = .returned (.bool (isS t c)) ∧ ∃ o, w' = w.alloc o := by
  by_cases hk : t.kind = 3
  · go_enter Try.func37, Try.ntmps37
    go_wp2
    go_ret
    refine ⟨?_, _, rfl⟩
    rw [isS_text t c hk, str_toList]
    show Ending.returned (Value.bool (t.text == [c])) = _
    rw [show (t.text == [c]) = decide (t.text = [c]) by by_cases h : t.text = [c] <;> simp [h]]
  · have hk' : (t.kind == 3) = false := by simp [hk]
    rw [isS_kind t c hk]
    go_enter Try.func37, Try.ntmps37
    go_wp2
    go_ret
    exact ⟨rfl, _, rfl⟩

theorem refSign_any (t : Tok) (c : UInt8) (w : World) :
    Calls Try.prog 27 #[tokV t, .string ⟨#[c]⟩] w fun e w' => e = .returned (.bool (isS t c)) ∧ ∃ o, w' = w.alloc o := by
  by_cases hk : t.kind = 3
  · go_enter Try.func27, Try.ntmps27
    go_wp2
    go_ret
    refine ⟨?_, _, rfl⟩
    rw [isS_text t c hk, str_toList]
    show Ending.returned (Value.bool (t.text == [c])) = _
    rw [show (t.text == [c]) = decide (t.text = [c]) by by_cases h : t.text = [c] <;> simp [h]]
  · have hk' : (t.kind == 3) = false := by simp [hk]
    rw [isS_kind t c hk]
    go_enter Try.func27, Try.ntmps27
    go_wp2
    go_ret
    exact ⟨rfl, _, rfl⟩

end Go.Proofs.Ytdmhdhmclcogoaa
