/- item's readerOf of the directives; said of their readers. -/
import Derived.Test.YtogkchgjpflmjaaGreatDoorFin2
namespace Go.Proofs.YtogkchgjpflmjaaGreatDoor
open Go.ChangeShapes Go.WideShapes Go.ChangeAt Go.RowKit
set_option linter.unusedVariables false
set_option maxRecDepth 100000
theorem readerOf_align (w : World) :
    Calls Tryz.prog 105 #[.string (str sAlign)] w fun e w' => Below w.heap.size w w' ∧ ∃ b, w.heap.size ≤ b ∧ e = .returned (.tuple #[.iface 226 (.pointer (some ⟨b, 0, none⟩)), .int .i64 1, .int .i64 1]) ∧ w'.heap[b]? = some (.cells (itmCells { itmE with kind := 3 } (.slice none 0 0)) 228 (0, 0)) := by
  generalize hS : str sAlign = S
  have d0 : (S.toList == [97, 108, 105, 103, 110]) = true := by rw [← hS, str_toList]; rfl
  clear hS
  go_enter Tryz.func105, Tryz.ntmps105
  go_wp2
  all_goals first | omega | skip
  go_ret3
  exact ⟨below_alloc w _, w.heap.size, Nat.le_refl _, rfl, heap_alloc_new w _⟩
theorem readerOf_pool (w : World) :
    Calls Tryz.prog 105 #[.string (str sPool)] w fun e w' => Below w.heap.size w w' ∧ ∃ b, w.heap.size ≤ b ∧ e = .returned (.tuple #[.iface 226 (.pointer (some ⟨b, 0, none⟩)), .int .i64 0, .int .i64 0]) ∧ w'.heap[b]? = some (.cells (itmCells { itmE with kind := 4 } (.slice none 0 0)) 228 (0, 0)) := by
  generalize hS : str sPool = S
  have d0 : (S.toList == [97, 108, 105, 103, 110]) = false := by rw [← hS, str_toList]; rfl
  have d1 : (S.toList == [112, 111, 111, 108]) = true := by rw [← hS, str_toList]; rfl
  clear hS
  go_enter Tryz.func105, Tryz.ntmps105
  go_wp2
  all_goals first | omega | skip
  go_ret3
  exact ⟨below_alloc w _, w.heap.size, Nat.le_refl _, rfl, heap_alloc_new w _⟩
theorem readerOf_byte (w : World) :
    Calls Tryz.prog 105 #[.string (str sByte)] w fun e w' => Below w.heap.size w w' ∧ ∃ b, w.heap.size ≤ b ∧ e = .returned (.tuple #[.iface 229 (.pointer (some ⟨b, 0, none⟩)), .int .i64 1, .int .i64 9223372036854775807]) ∧ w'.heap[b]? = some (.cells #[.int .i64 5, .slice none 0 0] 231 (0, 0)) := by
  generalize hS : str sByte = S
  have d0 : (S.toList == [97, 108, 105, 103, 110]) = false := by rw [← hS, str_toList]; rfl
  have d1 : (S.toList == [112, 111, 111, 108]) = false := by rw [← hS, str_toList]; rfl
  have d2 : (S.toList == [98, 121, 116, 101]) = true := by rw [← hS, str_toList]; rfl
  clear hS
  go_enter Tryz.func105, Tryz.ntmps105
  go_wp2
  all_goals first | omega | skip
  go_ret3
  exact ⟨below_alloc w _, w.heap.size, Nat.le_refl _, rfl, heap_alloc_new w _⟩
theorem readerOf_word (w : World) :
    Calls Tryz.prog 105 #[.string (str sWord)] w fun e w' => Below w.heap.size w w' ∧ ∃ b, w.heap.size ≤ b ∧ e = .returned (.tuple #[.iface 229 (.pointer (some ⟨b, 0, none⟩)), .int .i64 1, .int .i64 9223372036854775807]) ∧ w'.heap[b]? = some (.cells #[.int .i64 6, .slice none 0 0] 231 (0, 0)) := by
  generalize hS : str sWord = S
  have d0 : (S.toList == [97, 108, 105, 103, 110]) = false := by rw [← hS, str_toList]; rfl
  have d1 : (S.toList == [112, 111, 111, 108]) = false := by rw [← hS, str_toList]; rfl
  have d2 : (S.toList == [98, 121, 116, 101]) = false := by rw [← hS, str_toList]; rfl
  have d3 : (S.toList == [119, 111, 114, 100]) = true := by rw [← hS, str_toList]; rfl
  clear hS
  go_enter Tryz.func105, Tryz.ntmps105
  go_wp2
  all_goals first | omega | skip
  go_ret3
  exact ⟨below_alloc w _, w.heap.size, Nat.le_refl _, rfl, heap_alloc_new w _⟩
theorem readerOf_space (w : World) :
    Calls Tryz.prog 105 #[.string (str sSpace)] w fun e w' => Below w.heap.size w w' ∧ ∃ b, w.heap.size ≤ b ∧ e = .returned (.tuple #[.iface 226 (.pointer (some ⟨b, 0, none⟩)), .int .i64 1, .int .i64 1]) ∧ w'.heap[b]? = some (.cells (itmCells { itmE with kind := 7 } (.slice none 0 0)) 228 (0, 0)) := by
  generalize hS : str sSpace = S
  have d0 : (S.toList == [97, 108, 105, 103, 110]) = false := by rw [← hS, str_toList]; rfl
  have d1 : (S.toList == [112, 111, 111, 108]) = false := by rw [← hS, str_toList]; rfl
  have d2 : (S.toList == [98, 121, 116, 101]) = false := by rw [← hS, str_toList]; rfl
  have d3 : (S.toList == [119, 111, 114, 100]) = false := by rw [← hS, str_toList]; rfl
  have d4 : (S.toList == [115, 112, 97, 99, 101]) = true := by rw [← hS, str_toList]; rfl
  clear hS
  go_enter Tryz.func105, Tryz.ntmps105
  go_wp2
  all_goals first | omega | skip
  go_ret3
  exact ⟨below_alloc w _, w.heap.size, Nat.le_refl _, rfl, heap_alloc_new w _⟩
theorem readerOf_equ (w : World) :
    Calls Tryz.prog 105 #[.string (str sEqu)] w fun e w' => Below w.heap.size w w' ∧ ∃ b, w.heap.size ≤ b ∧ e = .returned (.tuple #[.iface 232 (.pointer (some ⟨b, 0, none⟩)), .int .i64 2, .int .i64 2]) ∧ w'.heap[b]? = some (.cells #[.string (str []), .slice none 0 0, .int .u32 0] 234 (0, 0)) := by
  generalize hS : str sEqu = S
  have d0 : (S.toList == [97, 108, 105, 103, 110]) = false := by rw [← hS, str_toList]; rfl
  have d1 : (S.toList == [112, 111, 111, 108]) = false := by rw [← hS, str_toList]; rfl
  have d2 : (S.toList == [98, 121, 116, 101]) = false := by rw [← hS, str_toList]; rfl
  have d3 : (S.toList == [119, 111, 114, 100]) = false := by rw [← hS, str_toList]; rfl
  have d4 : (S.toList == [115, 112, 97, 99, 101]) = false := by rw [← hS, str_toList]; rfl
  have d5 : (S.toList == [101, 113, 117]) = true := by rw [← hS, str_toList]; rfl
  clear hS
  go_enter Tryz.func105, Tryz.ntmps105
  go_wp2
  all_goals first | omega | skip
  go_ret3
  exact ⟨below_alloc w _, w.heap.size, Nat.le_refl _, rfl, heap_alloc_new w _⟩
theorem readerOf_global (w : World) :
    Calls Tryz.prog 105 #[.string (str sGlobal)] w fun e w' => Below w.heap.size w w' ∧ ∃ b, w.heap.size ≤ b ∧ e = .returned (.tuple #[.iface 235 (.pointer (some ⟨b, 0, none⟩)), .int .i64 1, .int .i64 1]) ∧ w'.heap[b]? = some (.cells #[.string (str [])] 237 (0, 0)) := by
  generalize hS : str sGlobal = S
  have d0 : (S.toList == [97, 108, 105, 103, 110]) = false := by rw [← hS, str_toList]; rfl
  have d1 : (S.toList == [112, 111, 111, 108]) = false := by rw [← hS, str_toList]; rfl
  have d2 : (S.toList == [98, 121, 116, 101]) = false := by rw [← hS, str_toList]; rfl
  have d3 : (S.toList == [119, 111, 114, 100]) = false := by rw [← hS, str_toList]; rfl
  have d4 : (S.toList == [115, 112, 97, 99, 101]) = false := by rw [← hS, str_toList]; rfl
  have d5 : (S.toList == [101, 113, 117]) = false := by rw [← hS, str_toList]; rfl
  have d6 : (S.toList == [103, 108, 111, 98, 97, 108]) = true := by rw [← hS, str_toList]; rfl
  clear hS
  go_enter Tryz.func105, Tryz.ntmps105
  go_wp2
  all_goals first | omega | skip
  go_ret3
  exact ⟨below_alloc w _, w.heap.size, Nat.le_refl _, rfl, heap_alloc_new w _⟩
theorem readerOf_section (w : World) :
    Calls Tryz.prog 105 #[.string (str sSection)] w fun e w' => Below w.heap.size w w' ∧ ∃ b, w.heap.size ≤ b ∧ e = .returned (.tuple #[.iface 238 (.pointer (some ⟨b, 0, none⟩)), .int .i64 1, .int .i64 1]) ∧ w'.heap[b]? = some (.cells #[.int .i64 0] 240 (0, 0)) := by
  generalize hS : str sSection = S
  have d0 : (S.toList == [97, 108, 105, 103, 110]) = false := by rw [← hS, str_toList]; rfl
  have d1 : (S.toList == [112, 111, 111, 108]) = false := by rw [← hS, str_toList]; rfl
  have d2 : (S.toList == [98, 121, 116, 101]) = false := by rw [← hS, str_toList]; rfl
  have d3 : (S.toList == [119, 111, 114, 100]) = false := by rw [← hS, str_toList]; rfl
  have d4 : (S.toList == [115, 112, 97, 99, 101]) = false := by rw [← hS, str_toList]; rfl
  have d5 : (S.toList == [101, 113, 117]) = false := by rw [← hS, str_toList]; rfl
  have d6 : (S.toList == [103, 108, 111, 98, 97, 108]) = false := by rw [← hS, str_toList]; rfl
  have d7 : (S.toList == [115, 101, 99, 116, 105, 111, 110]) = true := by rw [← hS, str_toList]; rfl
  clear hS
  go_enter Tryz.func105, Tryz.ntmps105
  go_wp2
  all_goals first | omega | skip
  go_ret3
  exact ⟨below_alloc w _, w.heap.size, Nat.le_refl _, rfl, heap_alloc_new w _⟩
theorem readerOf_none (s : List UInt8) (hd : s ∉ dirs) (hf : findN s = 0) (w : World) (hT : Tab w) :
    Calls Tryz.prog 105 #[.string (str s)] w fun e w' => w' = w ∧ e = .returned (.tuple #[.nilIface, .int .i64 0, .int .i64 0]) := by
  obtain ⟨d1, d2, d3, d4, d5, d6, d7, d8⟩ := dirs_ne hd
  have hfind := find_any (str s) w hT
  have hnm : nm (str s) = s := by simp [nm, str]
  rw [hnm, hf, show decide ((0 : Int) > 0) = false from rfl] at hfind
  replace hfind := Hid.intro hfind
  clear hnm hT hd hf
  generalize str s = S at d1 d2 d3 d4 d5 d6 d7 d8 hfind ⊢
  go_enter Tryz.func105, Tryz.ntmps105
  go_wp2_with (go_at_call 132; (with_reducible refine (hfind.out).mono ?_); rintro e w1 ⟨rfl, hw1⟩; subst hw1)
  all_goals first | omega | skip
  go_ret3
  exact ⟨rfl, rfl⟩
theorem assert_119_141 (a : Addr) (w : World) : (Instr.typeAssert (.iface 226 (.pointer (some a))) 192 242 true).run Tryz.prog w = .ok (.tuple #[.pointer none, .bool false]) w := by kernel_rfl
theorem assert_119 (a : Addr) (w : World) : (Instr.typeAssert (.iface 226 (.pointer (some a))) 192 226 true).run Tryz.prog w = .ok (.tuple #[.pointer (some a), .bool true]) w := by kernel_rfl
theorem nil_119 (a : Addr) (w : World) : (binOp .eql 192 (.iface 226 (.pointer (some a))) .nilIface).run Tryz.prog w = .ok (.bool false) w := by kernel_rfl
theorem assert_122_141 (a : Addr) (w : World) : (Instr.typeAssert (.iface 229 (.pointer (some a))) 192 242 true).run Tryz.prog w = .ok (.tuple #[.pointer none, .bool false]) w := by kernel_rfl
theorem assert_122_119 (a : Addr) (w : World) : (Instr.typeAssert (.iface 229 (.pointer (some a))) 192 226 true).run Tryz.prog w = .ok (.tuple #[.pointer none, .bool false]) w := by kernel_rfl
theorem assert_122 (a : Addr) (w : World) : (Instr.typeAssert (.iface 229 (.pointer (some a))) 192 229 true).run Tryz.prog w = .ok (.tuple #[.pointer (some a), .bool true]) w := by kernel_rfl
theorem nil_122 (a : Addr) (w : World) : (binOp .eql 192 (.iface 229 (.pointer (some a))) .nilIface).run Tryz.prog w = .ok (.bool false) w := by kernel_rfl
theorem assert_125_141 (a : Addr) (w : World) : (Instr.typeAssert (.iface 232 (.pointer (some a))) 192 242 true).run Tryz.prog w = .ok (.tuple #[.pointer none, .bool false]) w := by kernel_rfl
theorem assert_125_119 (a : Addr) (w : World) : (Instr.typeAssert (.iface 232 (.pointer (some a))) 192 226 true).run Tryz.prog w = .ok (.tuple #[.pointer none, .bool false]) w := by kernel_rfl
theorem assert_125_122 (a : Addr) (w : World) : (Instr.typeAssert (.iface 232 (.pointer (some a))) 192 229 true).run Tryz.prog w = .ok (.tuple #[.pointer none, .bool false]) w := by kernel_rfl
theorem assert_125 (a : Addr) (w : World) : (Instr.typeAssert (.iface 232 (.pointer (some a))) 192 232 true).run Tryz.prog w = .ok (.tuple #[.pointer (some a), .bool true]) w := by kernel_rfl
theorem nil_125 (a : Addr) (w : World) : (binOp .eql 192 (.iface 232 (.pointer (some a))) .nilIface).run Tryz.prog w = .ok (.bool false) w := by kernel_rfl
theorem assert_128_141 (a : Addr) (w : World) : (Instr.typeAssert (.iface 235 (.pointer (some a))) 192 242 true).run Tryz.prog w = .ok (.tuple #[.pointer none, .bool false]) w := by kernel_rfl
theorem assert_128_119 (a : Addr) (w : World) : (Instr.typeAssert (.iface 235 (.pointer (some a))) 192 226 true).run Tryz.prog w = .ok (.tuple #[.pointer none, .bool false]) w := by kernel_rfl
theorem assert_128_122 (a : Addr) (w : World) : (Instr.typeAssert (.iface 235 (.pointer (some a))) 192 229 true).run Tryz.prog w = .ok (.tuple #[.pointer none, .bool false]) w := by kernel_rfl
theorem assert_128_125 (a : Addr) (w : World) : (Instr.typeAssert (.iface 235 (.pointer (some a))) 192 232 true).run Tryz.prog w = .ok (.tuple #[.pointer none, .bool false]) w := by kernel_rfl
theorem assert_128 (a : Addr) (w : World) : (Instr.typeAssert (.iface 235 (.pointer (some a))) 192 235 true).run Tryz.prog w = .ok (.tuple #[.pointer (some a), .bool true]) w := by kernel_rfl
theorem nil_128 (a : Addr) (w : World) : (binOp .eql 192 (.iface 235 (.pointer (some a))) .nilIface).run Tryz.prog w = .ok (.bool false) w := by kernel_rfl
theorem assert_131_141 (a : Addr) (w : World) : (Instr.typeAssert (.iface 238 (.pointer (some a))) 192 242 true).run Tryz.prog w = .ok (.tuple #[.pointer none, .bool false]) w := by kernel_rfl
theorem assert_131_119 (a : Addr) (w : World) : (Instr.typeAssert (.iface 238 (.pointer (some a))) 192 226 true).run Tryz.prog w = .ok (.tuple #[.pointer none, .bool false]) w := by kernel_rfl
theorem assert_131_122 (a : Addr) (w : World) : (Instr.typeAssert (.iface 238 (.pointer (some a))) 192 229 true).run Tryz.prog w = .ok (.tuple #[.pointer none, .bool false]) w := by kernel_rfl
theorem assert_131_125 (a : Addr) (w : World) : (Instr.typeAssert (.iface 238 (.pointer (some a))) 192 232 true).run Tryz.prog w = .ok (.tuple #[.pointer none, .bool false]) w := by kernel_rfl
theorem assert_131_128 (a : Addr) (w : World) : (Instr.typeAssert (.iface 238 (.pointer (some a))) 192 235 true).run Tryz.prog w = .ok (.tuple #[.pointer none, .bool false]) w := by kernel_rfl
theorem assert_131 (a : Addr) (w : World) : (Instr.typeAssert (.iface 238 (.pointer (some a))) 192 238 true).run Tryz.prog w = .ok (.tuple #[.pointer (some a), .bool true]) w := by kernel_rfl
theorem nil_131 (a : Addr) (w : World) : (binOp .eql 192 (.iface 238 (.pointer (some a))) .nilIface).run Tryz.prog w = .ok (.bool false) w := by kernel_rfl
theorem nil_none (w : World) : (binOp .eql 192 .nilIface .nilIface).run Tryz.prog w = .ok (.bool true) w := by kernel_rfl
end Go.Proofs.YtogkchgjpflmjaaGreatDoor
