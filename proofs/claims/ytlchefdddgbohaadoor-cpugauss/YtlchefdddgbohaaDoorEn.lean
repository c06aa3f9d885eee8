/- The tables that the evaluator runs by. -/
import Derived.Test.YtlchefdddgbohaaDoorEvY
import Derived.Test.YtlchefdddgbohaaDoorTab
namespace Go.Proofs.YtlchefdddgbohaaDoor
open Go.ChangeShapes Go.WideShapes Go.ChangeAt Go.RowKit Go.Ev
set_option linter.unusedVariables false
set_option maxRecDepth 1000000

noncomputable def TY : Ty := ⟨Tr.ofL Tryd.prog.types.toList 0 .lf, [40]⟩
noncomputable def FN : Tr Func := Tr.ofL Tryd.prog.funcs.toList 0 .lf
theorem get_list {α : Type} {l : List α} {k : Nat} {x : α} (hl : Nat.blt l.length 1000000 = true) (h : (Tr.ofL l 0 .lf).get k = some x) : l[k]? = some x := by
  rw [Nat.blt_eq] at hl
  rw [Tr.get_ofL l 0 .lf k (by omega)] at h
  by_cases c : 0 ≤ k ∧ k < 0 + l.length
  · rw [if_pos c] at h; exact h
  · rw [if_neg c] at h; cases h
theorem tyOK : TyOK Tryd.prog TY := ⟨fun t i h => by
  have h1 := get_list (by decide +kernel) h
  rw [Array.getElem?_toList] at h1
  have h2 := (Array.getElem?_eq_some_iff.1 h1).1
  show Tables.info? Tryd.prog.toTables t = some i
  unfold Tables.info?
  exact (if_pos h2).trans h1, fun t ht => by
  have h3 : (TY.cm).all (EqT Tryd.prog) = true := by decide +kernel
  exact List.all_eq_true.1 h3 t ht⟩
theorem fnOK : FnOK Tryd.prog FN := fun f fn h => by
  have h1 := get_list (by decide +kernel) h
  have h2 := List.mem_of_getElem? h1
  rw [Array.getElem?_toList] at h1
  refine ⟨h1, ?_⟩
  have h3 : Tryd.prog.funcs.toList.all (fun fn => !(fn.name == "runtime.NumGoroutine")) = true := by decide +kernel
  have h4 := List.all_eq_true.1 h3 fn h2
  simpa using h4


def bs (l : List UInt8) : Value := .string ⟨l.toArray⟩
def tabOps : List Value := [bs [110, 111, 112], .int .u8 0, .int .i64 1, bs [104, 97, 108, 116], .int .u8 1, .int .i64 1, bs [114, 101, 116], .int .u8 2, .int .i64 1, bs [112, 114, 105, 110, 116], .int .u8 3, .int .i64 2, bs [105, 110], .int .u8 4, .int .i64 2, bs [112, 117, 115, 104], .int .u8 5, .int .i64 2, bs [112, 111, 112], .int .u8 6, .int .i64 2, bs [106, 114], .int .u8 7, .int .i64 2, bs [110, 101, 103], .int .u8 8, .int .i64 2, bs [110, 111, 116], .int .u8 9, .int .i64 2, bs [122, 116, 117, 114, 110], .int .u8 10, .int .i64 3, bs [122, 99, 111, 110, 106], .int .u8 11, .int .i64 3, bs [109, 111, 118], .int .u8 16, .int .i64 4, bs [97, 100, 100], .int .u8 17, .int .i64 4, bs [115, 117, 98], .int .u8 18, .int .i64 4, bs [109, 117, 108], .int .u8 19, .int .i64 4, bs [100, 105, 118], .int .u8 20, .int .i64 4, bs [97, 110, 100], .int .u8 21, .int .i64 4, bs [111, 114], .int .u8 22, .int .i64 4, bs [120, 111, 114], .int .u8 23, .int .i64 4, bs [115, 104, 108], .int .u8 24, .int .i64 4, bs [115, 104, 114], .int .u8 25, .int .i64 4, bs [108, 116], .int .u8 26, .int .i64 4, bs [101, 113], .int .u8 27, .int .i64 4, bs [108, 100, 98], .int .u8 28, .int .i64 4, bs [108, 100, 119], .int .u8 29, .int .i64 4, bs [108, 100, 109], .int .u8 30, .int .i64 4, bs [115, 116, 109], .int .u8 31, .int .i64 4, bs [122, 109, 111, 118], .int .u8 32, .int .i64 5, bs [122, 97, 100, 100], .int .u8 33, .int .i64 5, bs [122, 115, 117, 98], .int .u8 34, .int .i64 5, bs [122, 109, 117, 108], .int .u8 35, .int .i64 5, bs [122, 114, 101], .int .u8 36, .int .i64 6, bs [122, 105, 109], .int .u8 37, .int .i64 6, bs [122, 115, 101, 116], .int .u8 38, .int .i64 7, bs [108, 105, 115], .int .u8 48, .int .i64 8, bs [116, 114, 97, 112], .int .u8 49, .int .i64 9, bs [108, 105], .int .u8 50, .int .i64 10, bs [108, 100, 112], .int .u8 51, .int .i64 11, bs [106, 109, 112], .int .u8 64, .int .i64 12, bs [99, 97, 108, 108], .int .u8 67, .int .i64 12, bs [106, 122], .int .u8 70, .int .i64 13, bs [106, 110, 122], .int .u8 73, .int .i64 13]
def tabSh : List Value := [.int .i64 0, .int .i64 0, .int .i32 0, .int .i32 0, .int .i64 0, .int .i64 0, .int .i64 0, .int .i32 0, .int .i32 0, .int .i64 1, .int .i64 7, .int .i64 0, .int .i32 0, .int .i32 0, .int .i64 2, .int .i64 3, .int .i64 0, .int .i32 0, .int .i32 0, .int .i64 2, .int .i64 7, .int .i64 7, .int .i32 0, .int .i32 0, .int .i64 2, .int .i64 3, .int .i64 3, .int .i32 0, .int .i32 0, .int .i64 2, .int .i64 7, .int .i64 3, .int .i32 0, .int .i32 0, .int .i64 2, .int .i64 3, .int .i64 7, .int .i32 0, .int .i32 7, .int .i64 3, .int .i64 7, .int .i64 0, .int .i32 (-128), .int .i32 127, .int .i64 3, .int .i64 0, .int .i64 0, .int .i32 0, .int .i32 255, .int .i64 2, .int .i64 7, .int .i64 0, .int .i32 (-2147483648), .int .i32 2147483647, .int .i64 6, .int .i64 7, .int .i64 0, .int .i32 0, .int .i32 4095, .int .i64 4, .int .i64 0, .int .i64 0, .int .i32 0, .int .i32 0, .int .i64 1, .int .i64 7, .int .i64 0, .int .i32 0, .int .i32 0, .int .i64 2]
def tabKin : List Value := kindsT.map fun k => Value.int .i64 k
theorem tabOps_is : tabOps = opsT.flatMap opCells := rfl
theorem tabSh_is : tabSh = shT.flatMap shCells := rfl
noncomputable def tabs : Tr (List Value) := (((Tr.lf : Tr (List Value)).put 40 1 tabOps).put 40 2 tabSh).put 40 0 tabKin
theorem tabs_is {w : World} (h : Tab w) (hk : Kin w) : TabIs tabs w := by
  intro k l hkk
  unfold tabs at hkk
  rw [Tr.get_put 40 _ _ _ _ (by omega), Tr.get_put 40 _ _ _ _ (by omega), Tr.get_put 40 _ _ _ _ (by omega)] at hkk
  by_cases e0 : k = 0
  · subst e0
    rw [if_pos rfl] at hkk
    cases hkk
    obtain ⟨t, z, h1⟩ := hk
    exact ⟨_, t, z, h1, by show A2 _ tabKin tabKin; exact A2.lits (by decide +kernel)⟩
  · rw [if_neg e0] at hkk
    by_cases e : k = 2
    · subst e
      rw [if_pos rfl] at hkk
      cases hkk
      obtain ⟨_, t, z, h1⟩ := h
      exact ⟨_, t, z, h1, by rw [← tabSh_is]; exact A2.lits (by decide +kernel)⟩
    · rw [if_neg e] at hkk
      by_cases e2 : k = 1
      · subst e2
        rw [if_pos rfl] at hkk
        cases hkk
        obtain ⟨⟨t, z, h1⟩, _⟩ := h
        exact ⟨_, t, z, h1, by rw [← tabOps_is]; exact A2.lits (by decide +kernel)⟩
      · rw [if_neg e2] at hkk
        cases hkk
end Go.Proofs.YtlchefdddgbohaaDoor
