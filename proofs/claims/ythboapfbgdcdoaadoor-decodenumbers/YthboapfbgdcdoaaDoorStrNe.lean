/- The law EncodeApart, walked. -/
import Derived.Test.YthboapfbgdcdoaaDoorApartM
import Derived.Lib.Strings
namespace Go.Proofs.YthboapfbgdcdoaaDoor
open Go.ChangeShapes Go.WideShapes Go.ChangeAt Go.RowKit
set_option linter.unusedVariables false
set_option maxRecDepth 100000

theorem str_ne {s t : ByteArray} (h : s ≠ t) : (s.toList == t.toList) = false := by
  rw [Lib.toList_data, Lib.toList_data]
  simp only [beq_eq_false_iff_ne, ne_eq]
  intro he
  apply h
  cases s
  cases t
  simpa using he

theorem lies_take {w : World} {a : Option Addr} {zs : List Int} (h : Lies w a zs) (k : Nat) : Lies w a (zs.take k) := by
  refine ⟨areBytes_take _ h.1 _, ?_⟩
  rcases h.2 with rfl | ⟨b, off, ha, hc⟩
  · exact .inl (by simp)
  · refine .inr ⟨b, off, ha, fun i hi => ?_⟩
    rw [List.length_take] at hi
    rw [hc i (by omega)]
    simp [List.getElem?_take_of_lt (show i < k by omega)]

end Go.Proofs.YthboapfbgdcdoaaDoor
