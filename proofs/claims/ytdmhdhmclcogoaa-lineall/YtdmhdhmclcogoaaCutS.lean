/- strings.Cut at a byte 10. -/
import Derived.Test.YtdmhdhmclcogoaaLinesM
import Derived.Test.YtdmhdhmclcogoaaKnown
import Derived.BigQuiet
import Derived.WalkSmall
namespace Go.Proofs.Ytdmhdhmclcogoaa
open Go.ChangeShapes Go.WideShapes Go.ChangeAt Go.RowKit
set_option linter.unusedVariables false
set_option maxRecDepth 100000

theorem index_any (l : List UInt8) (w : World) :
    Calls Try.prog 47 #[.string (str l), .string ⟨#[10]⟩] w fun e w' => e = .returned (.int .i64 (Lib.indexByte l 10)) ∧ w' = w := by
  have e1 := str_toList l
  have hx : (10 : Int).toNat.toUInt8 = 10 := rfl
  have hI : ∀ w, Calls Try.prog 49 #[.string (str l), .int .u8 10] w fun e w' => e = .returned (.int .i64 (Lib.indexByte l 10)) ∧ w' = w := fun w => by
    have := liteIndexByte_any (str l) 10 w
    rw [hx] at this
    exact this
  have hIH := Hid.intro hI
  clear hI hx
  by_cases h : l = [10]
  · subst h
    have hz : Lib.indexByte [10] 10 = 0 := rfl
    rw [hz]
    go_enter Try.func47, Try.ntmps47
    go_wp2
    go_ret
    exact ⟨rfl, rfl⟩
  · have hb : ([10] == l) = false := by
      rw [beq_eq_false_iff_ne]
      exact fun e => h e.symm
    clear h
    go_enter Try.func47, Try.ntmps47
    go_wp2_with (go_at_call 49; refine (hIH.out _).mono ?_; rintro e w' ⟨rfl, rfl⟩)
    go_ret
    exact ⟨rfl, rfl⟩

theorem liteCut_any (l : List UInt8) (w : World) (hl : l.length ≤ 1100000) :
    Calls Try.prog 38 #[.string (str l), .string ⟨#[10]⟩] w fun e w' => (∃ b, e = .returned (.tuple #[.string (str (l.take (nlLen l))), .string (str (l.drop (nlLen l + 1))), .bool b])) ∧ Below w.heap.size w w' := by
  have hI := Hid.intro (index_any l)
  have hsz : (str l).size = l.length := by simp [str, ByteArray.size]
  have hle := nlLen_le l
  by_cases h : nlLen l < l.length
  · rw [idx_nl l, if_pos h] at hI
    obtain ⟨k, hk⟩ : ∃ k, k = nlLen l := ⟨_, rfl⟩
    rw [← hk] at hI h hle ⊢
    have h1 : ∀ W : World, (Instr.slice 9 (.string (str l)) none (some (.int .i64 (k : Int))) none).run Try.prog W = .ok (.string (str (l.take k))) W := fun W => by
      rw [run_slice_string_h W 9 (str l) Try.underlying9 .i64 (k : Int) (by omega) (by omega), Lib.extract_eq]
      simp [str]
    have h2 : ∀ W : World, (Instr.slice 9 (.string (str l)) (some (.int .i64 ((k : Int) + 1))) none none).run Try.prog W = .ok (.string (str (l.drop (k + 1)))) W := fun W => by
      rw [run_slice_string_l W 9 (str l) Try.underlying9 .i64 ((k : Int) + 1) (by omega) (by omega), hsz, Lib.extract_eq]
      rw [List.take_of_length_le (by simp [str])]
      simp [str]
    have h3 : IntKind.i64.wrap ((k : Int) + 1) = (k : Int) + 1 := by rw [IntKind.wrap_i64]; omega
    clear hk
    go_enter Try.func38, Try.ntmps38
    go_wp2_with (go_at_call 47; refine (hI.out _).mono ?_; rintro e w' ⟨rfl, rfl⟩)
    all_goals first | omega | skip
    go_quiet (fail)
    go_wp2
    all_goals first | omega | skip
    go_ret3
    exact ⟨⟨_, rfl⟩, below_drewN (Below.refl _ _) nq⟩
  · have e : nlLen l = l.length := by omega
    rw [idx_nl l, if_neg h] at hI
    rw [e, List.take_length, List.drop_eq_nil_of_le (by omega)]
    clear e h hle
    go_enter Try.func38, Try.ntmps38
    go_wp2_with (go_at_call 47; refine (hI.out _).mono ?_; rintro e w' ⟨rfl, rfl⟩)
    go_ret3
    exact ⟨⟨_, rfl⟩, Below.refl _ _⟩

theorem cut_any (l : List UInt8) (w : World) (hl : l.length ≤ 1100000) :
    Calls Try.prog 24 #[.string (str l), .string ⟨#[10]⟩] w fun e w' => (∃ b, e = .returned (.tuple #[.string (str (l.take (nlLen l))), .string (str (l.drop (nlLen l + 1))), .bool b])) ∧ Below w.heap.size w w' := by
  have hI := Hid.intro (liteCut_any l w hl)
  go_enter Try.func24, Try.ntmps24
  go_wp2_with (go_at_call 38; refine (hI.out).mono ?_; rintro e w' ⟨⟨b, rfl⟩, hb⟩)
  go_ret3
  exact ⟨⟨_, rfl⟩, hb⟩
end Go.Proofs.Ytdmhdhmclcogoaa
