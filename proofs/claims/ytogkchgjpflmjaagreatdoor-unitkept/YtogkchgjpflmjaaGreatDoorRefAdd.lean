/- The document's Add. -/
import Derived.Test.YtogkchgjpflmjaaGreatDoorSetM
import Derived.Test.YtogkchgjpflmjaaGreatDoorShelf
import Derived.Deep.RegionLaw
import Derived.Deep.DeepCutAuto
import Derived.Deep.DeepAppendWide
import Derived.Deep.QuietTactic
import Derived.BigQuiet
import Derived.WalkSmall
import Derived.WalkSpells
import Derived.Laws.Cover1
/- item's readerOf of the directives; said of their readers. -/
namespace Go.Proofs.YtogkchgjpflmjaaGreatDoor
open Go.ChangeShapes Go.WideShapes Go.ChangeAt Go.RowKit
set_option linter.unusedVariables false
set_option maxRecDepth 100000
theorem readerOf_align (w : World) :
    Calls Tryz.prog 105 #[.string (str sAlign)] w fun e w' => Below w.heap.size w w' ∧ ∃ b, w.heap.size ≤ b ∧ e = .returned (.tuple #[.iface 226 (.pointer (some ⟨b, 0, none⟩)), .int .i64 1, .int .i64 1]) ∧ w'.heap[b]? = some (.cells (itmCells { itmE with kind := 3 } (.slice none 0 0)) 228 (0, 0)) := by
  generalize hS : str sAlign = S
  have d0 : (S.toList == [97, 108, 105, 103, 110]) = true := by rw [← hS, str_toList]; rfl
  clear hS
  go_enter Tryz.func105, Tryz.ntmps105
  go_wp2
  all_goals first | omega | skip
  go_ret3
  exact ⟨below_alloc w _, w.heap.size, Nat.le_refl _, rfl, heap_alloc_new w _⟩
theorem readerOf_pool (w : World) :
    Calls Tryz.prog 105 #[.string (str sPool)] w fun e w' => Below w.heap.size w w' ∧ ∃ b, w.heap.size ≤ b ∧ e = .returned (.tuple #[.iface 226 (.pointer (some ⟨b, 0, none⟩)), .int .i64 0, .int .i64 0]) ∧ w'.heap[b]? = some (.cells (itmCells { itmE with kind := 4 } (.slice none 0 0)) 228 (0, 0)) := by
  generalize hS : str sPool = S
  have d0 : (S.toList == [97, 108, 105, 103, 110]) = false := by rw [← hS, str_toList]; rfl
  have d1 : (S.toList == [112, 111, 111, 108]) = true := by rw [← hS, str_toList]; rfl
  clear hS
  go_enter Tryz.func105, Tryz.ntmps105
  go_wp2
  all_goals first | omega | skip
  go_ret3
  exact ⟨below_alloc w _, w.heap.size, Nat.le_refl _, rfl, heap_alloc_new w _⟩
theorem readerOf_byte (w : World) :
    Calls Tryz.prog 105 #[.string (str sByte)] w fun e w' => Below w.heap.size w w' ∧ ∃ b, w.heap.size ≤ b ∧ e = .returned (.tuple #[.iface 229 (.pointer (some ⟨b, 0, none⟩)), .int .i64 1, .int .i64 9223372036854775807]) ∧ w'.heap[b]? = some (.cells #[.int .i64 5, .slice none 0 0] 231 (0, 0)) := by
  generalize hS : str sByte = S
  have d0 : (S.toList == [97, 108, 105, 103, 110]) = false := by rw [← hS, str_toList]; rfl
  have d1 : (S.toList == [112, 111, 111, 108]) = false := by rw [← hS, str_toList]; rfl
  have d2 : (S.toList == [98, 121, 116, 101]) = true := by rw [← hS, str_toList]; rfl
  clear hS
  go_enter Tryz.func105, Tryz.ntmps105
  go_wp2
  all_goals first | omega | skip
  go_ret3
  exact ⟨below_alloc w _, w.heap.size, Nat.le_refl _, rfl, heap_alloc_new w _⟩
theorem readerOf_word (w : World) :
    Calls Tryz.prog 105 #[.string (str sWord)] w fun e w' => Below w.heap.size w w' ∧ ∃ b, w.heap.size ≤ b ∧ e = .returned (.tuple #[.iface 229 (.pointer (some ⟨b, 0, none⟩)), .int .i64 1, .int .i64 9223372036854775807]) ∧ w'.heap[b]? = some (.cells #[.int .i64 6, .slice none 0 0] 231 (0, 0)) := by
  generalize hS : str sWord = S
  have d0 : (S.toList == [97, 108, 105, 103, 110]) = false := by rw [← hS, str_toList]; rfl
  have d1 : (S.toList == [112, 111, 111, 108]) = false := by rw [← hS, str_toList]; rfl
  have d2 : (S.toList == [98, 121, 116, 101]) = false := by rw [← hS, str_toList]; rfl
  have d3 : (S.toList == [119, 111, 114, 100]) = true := by rw [← hS, str_toList]; rfl
  clear hS
  go_enter Tryz.func105, Tryz.ntmps105
  go_wp2
  all_goals first | omega | skip
  go_ret3
  exact ⟨below_alloc w _, w.heap.size, Nat.le_refl _, rfl, heap_alloc_new w _⟩
theorem readerOf_space (w : World) :
    Calls Tryz.prog 105 #[.string (str sSpace)] w fun e w' => Below w.heap.size w w' ∧ ∃ b, w.heap.size ≤ b ∧ e = .returned (.tuple #[.iface 226 (.pointer (some ⟨b, 0, none⟩)), .int .i64 1, .int .i64 1]) ∧ w'.heap[b]? = some (.cells (itmCells { itmE with kind := 7 } (.slice none 0 0)) 228 (0, 0)) := by
  generalize hS : str sSpace = S
  have d0 : (S.toList == [97, 108, 105, 103, 110]) = false := by rw [← hS, str_toList]; rfl
  have d1 : (S.toList == [112, 111, 111, 108]) = false := by rw [← hS, str_toList]; rfl
  have d2 : (S.toList == [98, 121, 116, 101]) = false := by rw [← hS, str_toList]; rfl
  have d3 : (S.toList == [119, 111, 114, 100]) = false := by rw [← hS, str_toList]; rfl
  have d4 : (S.toList == [115, 112, 97, 99, 101]) = true := by rw [← hS, str_toList]; rfl
  clear hS
  go_enter Tryz.func105, Tryz.ntmps105
  go_wp2
  all_goals first | omega | skip
  go_ret3
  exact ⟨below_alloc w _, w.heap.size, Nat.le_refl _, rfl, heap_alloc_new w _⟩
theorem readerOf_equ (w : World) :
    Calls Tryz.prog 105 #[.string (str sEqu)] w fun e w' => Below w.heap.size w w' ∧ ∃ b, w.heap.size ≤ b ∧ e = .returned (.tuple #[.iface 232 (.pointer (some ⟨b, 0, none⟩)), .int .i64 2, .int .i64 2]) ∧ w'.heap[b]? = some (.cells #[.string (str []), .slice none 0 0, .int .u32 0] 234 (0, 0)) := by
  generalize hS : str sEqu = S
  have d0 : (S.toList == [97, 108, 105, 103, 110]) = false := by rw [← hS, str_toList]; rfl
  have d1 : (S.toList == [112, 111, 111, 108]) = false := by rw [← hS, str_toList]; rfl
  have d2 : (S.toList == [98, 121, 116, 101]) = false := by rw [← hS, str_toList]; rfl
  have d3 : (S.toList == [119, 111, 114, 100]) = false := by rw [← hS, str_toList]; rfl
  have d4 : (S.toList == [115, 112, 97, 99, 101]) = false := by rw [← hS, str_toList]; rfl
  have d5 : (S.toList == [101, 113, 117]) = true := by rw [← hS, str_toList]; rfl
  clear hS
  go_enter Tryz.func105, Tryz.ntmps105
  go_wp2
  all_goals first | omega | skip
  go_ret3
  exact ⟨below_alloc w _, w.heap.size, Nat.le_refl _, rfl, heap_alloc_new w _⟩
theorem readerOf_global (w : World) :
    Calls Tryz.prog 105 #[.string (str sGlobal)] w fun e w' => Below w.heap.size w w' ∧ ∃ b, w.heap.size ≤ b ∧ e = .returned (.tuple #[.iface 235 (.pointer (some ⟨b, 0, none⟩)), .int .i64 1, .int .i64 1]) ∧ w'.heap[b]? = some (.cells #[.string (str [])] 237 (0, 0)) := by
  generalize hS : str sGlobal = S
  have d0 : (S.toList == [97, 108, 105, 103, 110]) = false := by rw [← hS, str_toList]; rfl
  have d1 : (S.toList == [112, 111, 111, 108]) = false := by rw [← hS, str_toList]; rfl
  have d2 : (S.toList == [98, 121, 116, 101]) = false := by rw [← hS, str_toList]; rfl
  have d3 : (S.toList == [119, 111, 114, 100]) = false := by rw [← hS, str_toList]; rfl
  have d4 : (S.toList == [115, 112, 97, 99, 101]) = false := by rw [← hS, str_toList]; rfl
  have d5 : (S.toList == [101, 113, 117]) = false := by rw [← hS, str_toList]; rfl
  have d6 : (S.toList == [103, 108, 111, 98, 97, 108]) = true := by rw [← hS, str_toList]; rfl
  clear hS
  go_enter Tryz.func105, Tryz.ntmps105
  go_wp2
  all_goals first | omega | skip
  go_ret3
  exact ⟨below_alloc w _, w.heap.size, Nat.le_refl _, rfl, heap_alloc_new w _⟩
theorem readerOf_section (w : World) :
    Calls Tryz.prog 105 #[.string (str sSection)] w fun e w' => Below w.heap.size w w' ∧ ∃ b, w.heap.size ≤ b ∧ e = .returned (.tuple #[.iface 238 (.pointer (some ⟨b, 0, none⟩)), .int .i64 1, .int .i64 1]) ∧ w'.heap[b]? = some (.cells #[.int .i64 0] 240 (0, 0)) := by
  generalize hS : str sSection = S
  have d0 : (S.toList == [97, 108, 105, 103, 110]) = false := by rw [← hS, str_toList]; rfl
  have d1 : (S.toList == [112, 111, 111, 108]) = false := by rw [← hS, str_toList]; rfl
  have d2 : (S.toList == [98, 121, 116, 101]) = false := by rw [← hS, str_toList]; rfl
  have d3 : (S.toList == [119, 111, 114, 100]) = false := by rw [← hS, str_toList]; rfl
  have d4 : (S.toList == [115, 112, 97, 99, 101]) = false := by rw [← hS, str_toList]; rfl
  have d5 : (S.toList == [101, 113, 117]) = false := by rw [← hS, str_toList]; rfl
  have d6 : (S.toList == [103, 108, 111, 98, 97, 108]) = false := by rw [← hS, str_toList]; rfl
  have d7 : (S.toList == [115, 101, 99, 116, 105, 111, 110]) = true := by rw [← hS, str_toList]; rfl
  clear hS
  go_enter Tryz.func105, Tryz.ntmps105
  go_wp2
  all_goals first | omega | skip
  go_ret3
  exact ⟨below_alloc w _, w.heap.size, Nat.le_refl _, rfl, heap_alloc_new w _⟩
theorem readerOf_none (s : List UInt8) (hd : s ∉ dirs) (hf : findN s = 0) (w : World) (hT : Tab w) :
    Calls Tryz.prog 105 #[.string (str s)] w fun e w' => w' = w ∧ e = .returned (.tuple #[.nilIface, .int .i64 0, .int .i64 0]) := by
  obtain ⟨d1, d2, d3, d4, d5, d6, d7, d8⟩ := dirs_ne hd
  have hfind := find_any (str s) w hT
  have hnm : nm (str s) = s := by simp [nm, str]
  rw [hnm, hf, show decide ((0 : Int) > 0) = false from rfl] at hfind
  replace hfind := Hid.intro hfind
  clear hnm hT hd hf
  generalize str s = S at d1 d2 d3 d4 d5 d6 d7 d8 hfind ⊢
  go_enter Tryz.func105, Tryz.ntmps105
  go_wp2_with (go_at_call 132; (with_reducible refine (hfind.out).mono ?_); rintro e w1 ⟨rfl, hw1⟩; subst hw1)
  all_goals first | omega | skip
  go_ret3
  exact ⟨rfl, rfl⟩
theorem assert_119_141 (a : Addr) (w : World) : (Instr.typeAssert (.iface 226 (.pointer (some a))) 192 242 true).run Tryz.prog w = .ok (.tuple #[.pointer none, .bool false]) w := by kernel_rfl
theorem assert_119 (a : Addr) (w : World) : (Instr.typeAssert (.iface 226 (.pointer (some a))) 192 226 true).run Tryz.prog w = .ok (.tuple #[.pointer (some a), .bool true]) w := by kernel_rfl
theorem nil_119 (a : Addr) (w : World) : (binOp .eql 192 (.iface 226 (.pointer (some a))) .nilIface).run Tryz.prog w = .ok (.bool false) w := by kernel_rfl
theorem assert_122_141 (a : Addr) (w : World) : (Instr.typeAssert (.iface 229 (.pointer (some a))) 192 242 true).run Tryz.prog w = .ok (.tuple #[.pointer none, .bool false]) w := by kernel_rfl
theorem assert_122_119 (a : Addr) (w : World) : (Instr.typeAssert (.iface 229 (.pointer (some a))) 192 226 true).run Tryz.prog w = .ok (.tuple #[.pointer none, .bool false]) w := by kernel_rfl
theorem assert_122 (a : Addr) (w : World) : (Instr.typeAssert (.iface 229 (.pointer (some a))) 192 229 true).run Tryz.prog w = .ok (.tuple #[.pointer (some a), .bool true]) w := by kernel_rfl
theorem nil_122 (a : Addr) (w : World) : (binOp .eql 192 (.iface 229 (.pointer (some a))) .nilIface).run Tryz.prog w = .ok (.bool false) w := by kernel_rfl
theorem assert_125_141 (a : Addr) (w : World) : (Instr.typeAssert (.iface 232 (.pointer (some a))) 192 242 true).run Tryz.prog w = .ok (.tuple #[.pointer none, .bool false]) w := by kernel_rfl
theorem assert_125_119 (a : Addr) (w : World) : (Instr.typeAssert (.iface 232 (.pointer (some a))) 192 226 true).run Tryz.prog w = .ok (.tuple #[.pointer none, .bool false]) w := by kernel_rfl
theorem assert_125_122 (a : Addr) (w : World) : (Instr.typeAssert (.iface 232 (.pointer (some a))) 192 229 true).run Tryz.prog w = .ok (.tuple #[.pointer none, .bool false]) w := by kernel_rfl
theorem assert_125 (a : Addr) (w : World) : (Instr.typeAssert (.iface 232 (.pointer (some a))) 192 232 true).run Tryz.prog w = .ok (.tuple #[.pointer (some a), .bool true]) w := by kernel_rfl
theorem nil_125 (a : Addr) (w : World) : (binOp .eql 192 (.iface 232 (.pointer (some a))) .nilIface).run Tryz.prog w = .ok (.bool false) w := by kernel_rfl
theorem assert_128_141 (a : Addr) (w : World) : (Instr.typeAssert (.iface 235 (.pointer (some a))) 192 242 true).run Tryz.prog w = .ok (.tuple #[.pointer none, .bool false]) w := by kernel_rfl
theorem assert_128_119 (a : Addr) (w : World) : (Instr.typeAssert (.iface 235 (.pointer (some a))) 192 226 true).run Tryz.prog w = .ok (.tuple #[.pointer none, .bool false]) w := by kernel_rfl
theorem assert_128_122 (a : Addr) (w : World) : (Instr.typeAssert (.iface 235 (.pointer (some a))) 192 229 true).run Tryz.prog w = .ok (.tuple #[.pointer none, .bool false]) w := by kernel_rfl
theorem assert_128_125 (a : Addr) (w : World) : (Instr.typeAssert (.iface 235 (.pointer (some a))) 192 232 true).run Tryz.prog w = .ok (.tuple #[.pointer none, .bool false]) w := by kernel_rfl
theorem assert_128 (a : Addr) (w : World) : (Instr.typeAssert (.iface 235 (.pointer (some a))) 192 235 true).run Tryz.prog w = .ok (.tuple #[.pointer (some a), .bool true]) w := by kernel_rfl
theorem nil_128 (a : Addr) (w : World) : (binOp .eql 192 (.iface 235 (.pointer (some a))) .nilIface).run Tryz.prog w = .ok (.bool false) w := by kernel_rfl
theorem assert_131_141 (a : Addr) (w : World) : (Instr.typeAssert (.iface 238 (.pointer (some a))) 192 242 true).run Tryz.prog w = .ok (.tuple #[.pointer none, .bool false]) w := by kernel_rfl
theorem assert_131_119 (a : Addr) (w : World) : (Instr.typeAssert (.iface 238 (.pointer (some a))) 192 226 true).run Tryz.prog w = .ok (.tuple #[.pointer none, .bool false]) w := by kernel_rfl
theorem assert_131_122 (a : Addr) (w : World) : (Instr.typeAssert (.iface 238 (.pointer (some a))) 192 229 true).run Tryz.prog w = .ok (.tuple #[.pointer none, .bool false]) w := by kernel_rfl
theorem assert_131_125 (a : Addr) (w : World) : (Instr.typeAssert (.iface 238 (.pointer (some a))) 192 232 true).run Tryz.prog w = .ok (.tuple #[.pointer none, .bool false]) w := by kernel_rfl
theorem assert_131_128 (a : Addr) (w : World) : (Instr.typeAssert (.iface 238 (.pointer (some a))) 192 235 true).run Tryz.prog w = .ok (.tuple #[.pointer none, .bool false]) w := by kernel_rfl
theorem assert_131 (a : Addr) (w : World) : (Instr.typeAssert (.iface 238 (.pointer (some a))) 192 238 true).run Tryz.prog w = .ok (.tuple #[.pointer (some a), .bool true]) w := by kernel_rfl
theorem nil_131 (a : Addr) (w : World) : (binOp .eql 192 (.iface 238 (.pointer (some a))) .nilIface).run Tryz.prog w = .ok (.bool false) w := by kernel_rfl
theorem nil_none (w : World) : (binOp .eql 192 .nilIface .nilIface).run Tryz.prog w = .ok (.bool true) w := by kernel_rfl
end Go.Proofs.YtogkchgjpflmjaaGreatDoor
/- item's said of the directives' readers; the readers of one item, of a name, of a section. -/
namespace Go.Proofs.YtogkchgjpflmjaaGreatDoor
open Go.ChangeShapes Go.WideShapes Go.ChangeAt Go.RowKit
set_option linter.unusedVariables false
set_option maxRecDepth 100000
theorem said_single (b : Nat) (x : Itm) (va : Option Addr) (n vc : Nat) (w : World) (h : w.heap[b]? = some (.cells (itmCells x (.slice va n vc)) 228 (0, 0))) :
    Calls Tryz.prog 106 #[.iface 226 (.pointer (some ⟨b, 0, none⟩))] w fun e w' => Below w.heap.size w w' ∧ ∃ q, w.heap.size < q ∧ e = .returned (thgV 1 (.slice (some ⟨q, 0, none⟩) 1 1) [] (.slice none 0 0) 0 0) ∧ w'.heap[q]? = some (.cells (itmCells x (.slice va n vc)) 91 (0, 0)) := by
  have hc := fun j => cell_blockT h j
  have c0 := (hc 0).trans rfl
  have c1 := (hc 1).trans rfl
  have c2 := (hc 2).trans rfl
  have c3 := (hc 3).trans rfl
  have c4 := (hc 4).trans rfl
  have c5 := (hc 5).trans rfl
  have c6 := (hc 6).trans rfl
  have c7 := (hc 7).trans rfl
  have c8 := (hc 8).trans rfl
  have c9 := (hc 9).trans rfl
  have hlt := blk_lt h
  clear hc h
  have hta0 := fun a w => assert_119_141 a w
  have hta := fun a w => assert_119 a w
  go_enter Tryz.func106, Tryz.ntmps106
  go_wp2
  all_goals first | omega | skip
  have hB : Below w.heap.size w ((w.alloc (.cells #[.int .i64 1, .slice (some ⟨w.heap.size + 1, 0, none⟩) 1 1, .string ⟨#[]⟩, .slice none 0 0, .int .u32 0, .int .i64 0] 137)).alloc (.cells (itmCells x (.slice va n vc)) 91)) := (below_alloc w _).alloc (by simp) _
  have hs1 : (w.alloc (.cells #[.int .i64 1, .slice (some ⟨w.heap.size + 1, 0, none⟩) 1 1, .string ⟨#[]⟩, .slice none 0 0, .int .u32 0, .int .i64 0] 137)).heap.size = w.heap.size + 1 := by simp
  have hq := heap_alloc_new (w.alloc (.cells #[.int .i64 1, .slice (some ⟨w.heap.size + 1, 0, none⟩) 1 1, .string ⟨#[]⟩, .slice none 0 0, .int .u32 0, .int .i64 0] 137)) (.cells (itmCells x (.slice va n vc)) 91)
  rw [hs1] at hq
  have hr : ((w.alloc (.cells #[.int .i64 1, .slice (some ⟨w.heap.size + 1, 0, none⟩) 1 1, .string ⟨#[]⟩, .slice none 0 0, .int .u32 0, .int .i64 0] 137)).alloc (.cells (itmCells x (.slice va n vc)) 91)).heap[w.heap.size]? = some (.cells #[.int .i64 1, .slice (some ⟨w.heap.size + 1, 0, none⟩) 1 1, .string ⟨#[]⟩, .slice none 0 0, .int .u32 0, .int .i64 0] 137 (0, 0)) := by
    rw [Below.heap_alloc _ _ _ (by omega)]
    exact heap_alloc_new w _
  generalize ((w.alloc (.cells #[.int .i64 1, .slice (some ⟨w.heap.size + 1, 0, none⟩) 1 1, .string ⟨#[]⟩, .slice none 0 0, .int .u32 0, .int .i64 0] 137)).alloc (.cells (itmCells x (.slice va n vc)) 91)) = w9 at hB hq hr ⊢
  have k0 := (cell_blockT hr 0).trans rfl
  have k1 := (cell_blockT hr 1).trans rfl
  have k2 := (cell_blockT hr 2).trans rfl
  have k3 := (cell_blockT hr 3).trans rfl
  have k4 := (cell_blockT hr 4).trans rfl
  have k5 := (cell_blockT hr 5).trans rfl
  refine bodyPost_ret (by simp [results, Tryz.results106, go_sem, k0, k1, k2, k3, k4, k5]; try rfl) rfl ?_
  exact ⟨hB, w.heap.size + 1, by omega, rfl, hq⟩
theorem said_end {w : World} {v0 v1 v2 v3 v4 v5 : Value} : (w.alloc (.cells #[v0, v1, v2, v3, v4, v5] 137)).cell? ⟨w.heap.size, 0, none⟩ = some v0 ∧ (w.alloc (.cells #[v0, v1, v2, v3, v4, v5] 137)).cell? ⟨w.heap.size, 1, none⟩ = some v1 ∧ (w.alloc (.cells #[v0, v1, v2, v3, v4, v5] 137)).cell? ⟨w.heap.size, 2, none⟩ = some v2 ∧ (w.alloc (.cells #[v0, v1, v2, v3, v4, v5] 137)).cell? ⟨w.heap.size, 3, none⟩ = some v3 ∧ (w.alloc (.cells #[v0, v1, v2, v3, v4, v5] 137)).cell? ⟨w.heap.size, 4, none⟩ = some v4 ∧ (w.alloc (.cells #[v0, v1, v2, v3, v4, v5] 137)).cell? ⟨w.heap.size, 5, none⟩ = some v5 := by
  have h := heap_alloc_new w (.cells #[v0, v1, v2, v3, v4, v5] 137)
  exact ⟨(cell_blockT h 0).trans rfl, (cell_blockT h 1).trans rfl, (cell_blockT h 2).trans rfl, (cell_blockT h 3).trans rfl, (cell_blockT h 4).trans rfl, (cell_blockT h 5).trans rfl⟩
theorem said_several (b : Nat) (k : Int) (a : Option Addr) (n c : Nat) (w : World) (h : w.heap[b]? = some (.cells #[.int .i64 k, .slice a n c] 231 (0, 0))) :
    Calls Tryz.prog 106 #[.iface 229 (.pointer (some ⟨b, 0, none⟩))] w fun e w' => Below w.heap.size w w' ∧ e = .returned (thgV 2 (.slice a n c) [] (.slice none 0 0) 0 0) := by
  have c0 := (cell_blockT h 0).trans rfl
  have c1 := (cell_blockT h 1).trans rfl
  have hlt := blk_lt h
  clear h
  have hta0 := fun a w => assert_122_141 a w
  have hta1 := fun a w => assert_122_119 a w
  have hta := fun a w => assert_122 a w
  go_enter Tryz.func106, Tryz.ntmps106
  go_wp2
  all_goals first | omega | skip
  have hB := below_alloc w (.cells #[.int .i64 2, .slice a n c, .string ⟨#[]⟩, .slice none 0 0, .int .u32 0, .int .i64 0] 137)
  obtain ⟨k0, k1, k2, k3, k4, k5⟩ := said_end (w := w) (v0 := .int .i64 2) (v1 := .slice a n c) (v2 := .string ⟨#[]⟩) (v3 := .slice none 0 0) (v4 := .int .u32 0) (v5 := .int .i64 0)
  generalize (w.alloc (.cells #[.int .i64 2, .slice a n c, .string ⟨#[]⟩, .slice none 0 0, .int .u32 0, .int .i64 0] 137)) = w9 at hB k0 k1 k2 k3 k4 k5 ⊢
  refine bodyPost_ret (by simp [results, Tryz.results106, go_sem, k0, k1, k2, k3, k4, k5]; try rfl) rfl ?_
  exact ⟨hB, rfl⟩
theorem said_export (b : Nat) (s : List UInt8) (w : World) (h : w.heap[b]? = some (.cells #[.string (str s)] 237 (0, 0))) :
    Calls Tryz.prog 106 #[.iface 235 (.pointer (some ⟨b, 0, none⟩))] w fun e w' => Below w.heap.size w w' ∧ e = .returned (thgV 4 (.slice none 0 0) s (.slice none 0 0) 0 0) := by
  have c0 := (cell_blockT h 0).trans rfl
  have hlt := blk_lt h
  clear h
  have hta0 := fun a w => assert_128_141 a w
  have hta1 := fun a w => assert_128_119 a w
  have hta2 := fun a w => assert_128_122 a w
  have hta3 := fun a w => assert_128_125 a w
  have hta := fun a w => assert_128 a w
  go_enter Tryz.func106, Tryz.ntmps106
  go_wp2
  all_goals first | omega | skip
  have hB := below_alloc w (.cells #[.int .i64 4, .slice none 0 0, .string (str s), .slice none 0 0, .int .u32 0, .int .i64 0] 137)
  obtain ⟨k0, k1, k2, k3, k4, k5⟩ := said_end (w := w) (v0 := .int .i64 4) (v1 := .slice none 0 0) (v2 := .string (str s)) (v3 := .slice none 0 0) (v4 := .int .u32 0) (v5 := .int .i64 0)
  generalize (w.alloc (.cells #[.int .i64 4, .slice none 0 0, .string (str s), .slice none 0 0, .int .u32 0, .int .i64 0] 137)) = w9 at hB k0 k1 k2 k3 k4 k5 ⊢
  refine bodyPost_ret (by simp [results, Tryz.results106, go_sem, k0, k1, k2, k3, k4, k5]; try rfl) rfl ?_
  exact ⟨hB, rfl⟩
theorem said_segment (b : Nat) (sec : Int) (w : World) (h : w.heap[b]? = some (.cells #[.int .i64 sec] 240 (0, 0))) :
    Calls Tryz.prog 106 #[.iface 238 (.pointer (some ⟨b, 0, none⟩))] w fun e w' => Below w.heap.size w w' ∧ e = .returned (thgV 5 (.slice none 0 0) [] (.slice none 0 0) 0 sec) := by
  have c0 := (cell_blockT h 0).trans rfl
  have hlt := blk_lt h
  clear h
  have hta0 := fun a w => assert_131_141 a w
  have hta1 := fun a w => assert_131_119 a w
  have hta2 := fun a w => assert_131_122 a w
  have hta3 := fun a w => assert_131_125 a w
  have hta4 := fun a w => assert_131_128 a w
  have hta := fun a w => assert_131 a w
  go_enter Tryz.func106, Tryz.ntmps106
  go_wp2
  all_goals first | omega | skip
  have hB := below_alloc w (.cells #[.int .i64 5, .slice none 0 0, .string ⟨#[]⟩, .slice none 0 0, .int .u32 0, .int .i64 sec] 137)
  obtain ⟨k0, k1, k2, k3, k4, k5⟩ := said_end (w := w) (v0 := .int .i64 5) (v1 := .slice none 0 0) (v2 := .string ⟨#[]⟩) (v3 := .slice none 0 0) (v4 := .int .u32 0) (v5 := .int .i64 sec)
  generalize (w.alloc (.cells #[.int .i64 5, .slice none 0 0, .string ⟨#[]⟩, .slice none 0 0, .int .u32 0, .int .i64 sec] 137)) = w9 at hB k0 k1 k2 k3 k4 k5 ⊢
  refine bodyPost_ret (by simp [results, Tryz.results106, go_sem, k0, k1, k2, k3, k4, k5]; try rfl) rfl ?_
  exact ⟨hB, rfl⟩
theorem said_equation (b : Nat) (s : List UInt8) (a : Option Addr) (n c : Nat) (k : Int) (w : World) (h : w.heap[b]? = some (.cells #[.string (str s), .slice a n c, .int .u32 k] 234 (0, 0))) :
    Calls Tryz.prog 106 #[.iface 232 (.pointer (some ⟨b, 0, none⟩))] w fun e w' => Below w.heap.size w w' ∧ e = .returned (thgV 3 (.slice none 0 0) s (.slice a n c) k 0) := by
  have c0 := (cell_blockT h 0).trans rfl
  have c1 := (cell_blockT h 1).trans rfl
  have c2 := (cell_blockT h 2).trans rfl
  have hlt := blk_lt h
  clear h
  have hta0 := fun a w => assert_125_141 a w
  have hta1 := fun a w => assert_125_119 a w
  have hta2 := fun a w => assert_125_122 a w
  have hta := fun a w => assert_125 a w
  have hne : ¬ b = w.heap.size := by omega
  have hne2 : ¬ w.heap.size = b := by omega
  go_enter Tryz.func106, Tryz.ntmps106
  go_wp2
  all_goals first | omega | skip
  go_region
  go_wp2
  all_goals first | omega | skip
  have hB := below_alloc w (.cells #[.int .i64 3, .slice none 0 0, .string (str s), .slice a n c, .int .u32 k, .int .i64 0] 137)
  obtain ⟨k0, k1, k2, k3, k4, k5⟩ := said_end (w := w) (v0 := .int .i64 3) (v1 := .slice none 0 0) (v2 := .string (str s)) (v3 := .slice a n c) (v4 := .int .u32 k) (v5 := .int .i64 0)
  generalize (w.alloc (.cells #[.int .i64 3, .slice none 0 0, .string (str s), .slice a n c, .int .u32 k, .int .i64 0] 137)) = w9 at hB k0 k1 k2 k3 k4 k5 ⊢
  refine bodyPost_ret (by simp [results, Tryz.results106, go_sem, k0, k1, k2, k3, k4, k5]; try rfl) rfl ?_
  exact ⟨hB.drew, rfl⟩
end Go.Proofs.YtogkchgjpflmjaaGreatDoor
/- item's readers of one item, of an equation, of a global, of a section. -/
namespace Go.Proofs.YtogkchgjpflmjaaGreatDoor
open Go.ChangeShapes Go.WideShapes Go.ChangeAt Go.RowKit
set_option linter.unusedVariables false
set_option maxRecDepth 100000
theorem args_at1 {B : Nat} {w : World} {a : Option Addr} {x0 : List Tok} {r : List (List Tok)} (h : ArgsIn B w a (x0 :: r)) : ∃ G a' c', a = some ⟨G, 0, none⟩ ∧ G < B ∧ w.cell? ⟨G, 0, none⟩ = some (.slice a' x0.length c') ∧ Toks w a' c' x0 ∧ ∀ y, a' = some y → y.block < B := h.at (i := 0) rfl
def SgOut (b : Nat) (R : Except Int Itm) (e : Ending) (w' : World) : Prop := match R with | .error k => e = .returned (.int .i64 k) | .ok x => e = .returned (.int .i64 0) ∧ x.e = linE ∧ w'.heap[b]? = some (.cells (itmCells x (.slice none 0 0)) 228 (0, 0))
def ExOut (b : Nat) (R : Except Int (List UInt8)) (e : Ending) (w' : World) : Prop := match R with | .error k => e = .returned (.int .i64 k) | .ok s => e = .returned (.int .i64 0) ∧ w'.heap[b]? = some (.cells #[.string (str s)] 237 (0, 0))
def SeOut (b : Nat) (R : Except Int Thg) (e : Ending) (w' : World) : Prop := match R with | .error k => e = .returned (.int .i64 k) | .ok t => e = .returned (.int .i64 0) ∧ t = ⟨5, [], [], linE, t.sec⟩ ∧ w'.heap[b]? = some (.cells #[.int .i64 t.sec] 240 (0, 0))
def EqOut (b : Nat) (R : Except Int Thg) (e : Ending) (w' : World) : Prop := match R with | .error k => e = .returned (.int .i64 k) | .ok t => e = .returned (.int .i64 0) ∧ (∃ s y, t = ⟨3, [], s, y, 0⟩ ∧ ∃ va n vc, w'.heap[b]? = some (.cells #[.string (str s), .slice va n vc, .int .u32 y.const] 234 (0, 0)) ∧ w'.ownsRow (b + 1) 123 2 (.slice va n vc) y.terms.length (rowT y.terms))
def NumW (kind : Int) (R : Except Int Itm) (N W : Int) : Prop := match R with | .error k => W = k | .ok x => W = 0 ∧ { itmE with kind := kind, n := N } = x
def NamW (R : Except Int (List UInt8)) (N : List UInt8) (W : Int) : Prop := match R with | .error k => W = k | .ok s => N = s ∧ W = 0
def LinW (R : Except Int Lin) (W : Int) : Prop := match R with | .error k => W = k | .ok _ => W = 0
def EquR (s : List UInt8) (R : Except Int Lin) : Except Int Thg := match R with | .error k => .error k | .ok y => .ok ⟨3, [], s, y, 0⟩
theorem num_w (kind : Int) (hk : kind ≠ 6) (arg : List Tok) : ∃ N W, numV (numF kind arg) = .tuple #[.int .i64 N, .int .i64 W] ∧ NumW kind (itOf kind arg) N W := by
  unfold itOf
  rw [if_neg hk]
  cases numF kind arg with
  | error k => exact ⟨0, k, rfl, rfl⟩
  | ok n => exact ⟨n, 0, rfl, rfl, rfl⟩
theorem nam_w (R : Except Int (List UInt8)) : ∃ N W, nameVI R = .tuple #[.string (str N), .int .i64 W] ∧ NamW R N W := by
  cases R with
  | error k => exact ⟨[], k, rfl, rfl⟩
  | ok n => exact ⟨n, 0, rfl, rfl, rfl⟩
theorem singRead_none (b : Nat) (kind : Int) (a : Option Addr) (c : Nat) (w : World) (h : w.heap[b]? = some (.cells (itmCells { itmE with kind := kind } (.slice none 0 0)) 228 (0, 0))) :
    Calls Tryz.prog 228 #[.pointer (some ⟨b, 0, none⟩), .slice a 0 c] w fun e w' => e = .returned (.int .i64 0) ∧ w' = w := by
  clear h
  go_enter Tryz.func228, Tryz.ntmps228
  go_wp2
  go_loopw [4, 9] (fun v4 v9 wr => v4 = .int .i64 0 ∧ v9 = .int .i64 0 ∧ wr = w) (fun v4 v9 wr => 0)
  case atStart => exact ⟨rfl, rfl, rfl⟩
  case round =>
    obtain ⟨rfl, rfl, rfl⟩ := hrel
    go_wp2
    all_goals first | omega | skip
    go_ret
    exact ⟨rfl, rfl⟩
theorem sing_set {w w1 : World} {b : Nat} {kind : Int} (h : w.heap[b]? = some (.cells (itmCells { itmE with kind := kind } (.slice none 0 0)) 228 (0, 0))) (hb : Below w.heap.size w w1) (n : Int) :
    (w1.setCell ⟨b, 9, none⟩ (.int .i64 n)).heap[b]? = some (.cells (itmCells { itmE with kind := kind, n := n } (.slice none 0 0)) 228 (0, 0)) ∧ Below b w (w1.setCell ⟨b, 9, none⟩ (.int .i64 n)) := by
  have hlt := blk_lt h
  have h1 : w1.heap[b]? = some (.cells (itmCells { itmE with kind := kind } (.slice none 0 0)) 228 (0, 0)) := by rw [hb.block b hlt]; exact h
  obtain ⟨s1, s2⟩ := row_set h1 9 (.int .i64 n)
  have := hb.size
  exact ⟨s1, (hb.mono (by omega)).grown s2 (by omega) (fun j hj => by cases hj; exact Nat.le_refl _)⟩
set_option maxHeartbeats 1000000 in
theorem singRead_one (b : Nat) (kind : Int) (hk : kind ≠ 6) (a : Option Addr) (c : Nat) (arg : List Tok) (w : World) (hA : ArgsIn b w a [arg]) (h : w.heap[b]? = some (.cells (itmCells { itmE with kind := kind } (.slice none 0 0)) 228 (0, 0))) :
    Calls Tryz.prog 228 #[.pointer (some ⟨b, 0, none⟩), .slice a 1 c] w fun e w' => Below b w w' ∧ SgOut b (itOf kind arg) e w' := by
  obtain ⟨G, a', c', rfl, hG, hcell, hT, _⟩ := args_at1 hA
  have hnum := numberOf_any kind a' c' arg w hT
  obtain ⟨N, W, hN, hNR⟩ := num_w kind hk arg
  rw [hN] at hnum
  clear hN hT hA
  generalize arg.length = ln at hnum hcell
  generalize itOf kind arg = R at hNR ⊢
  have c0 := (cell_blockT h 0).trans rfl
  have hlt := blk_lt h
  have hHH := Hid.intro h
  clear h
  replace hnum := Hid.intro hnum
  replace hNR := Hid.intro hNR
  go_enter Tryz.func228, Tryz.ntmps228
  go_wp2
  go_loopw [4, 9] (fun v4 v9 wr => (v4 = .int .i64 0 ∧ v9 = .int .i64 0 ∧ wr = w) ∨ (v4 = .int .i64 W ∧ v9 = .int .i64 1 ∧ ∃ w1, Below w.heap.size w w1 ∧ wr = w1.setCell ⟨b, 9, none⟩ (.int .i64 N))) (fun v4 v9 wr => 1 - (intOf v9).toNat)
  case atStart => exact .inl ⟨rfl, rfl, rfl⟩
  case round =>
    rcases hrel with ⟨rfl, rfl, rfl⟩ | ⟨rfl, rfl, w1, hb1, rfl⟩
    · go_wp2_with (go_at_call 229; (with_reducible refine (hnum.out).mono ?_); rintro e w1 ⟨rfl, hb1⟩; have hh1 := (show w1.heap[b]? = some (.cells (itmCells { itmE with kind := kind } (.slice none 0 0)) 228 (0, 0)) from by rw [hb1.block b hlt]; exact hHH.out); have z9 := (cell_blockT hh1 9).trans rfl; have f9 := frozen_of_row w1 b 9 _ 228 hh1; replace hh1 := Hid.intro hh1)
      all_goals first | omega | skip
      go_roundw
      case rel => exact .inr ⟨rfl, by go_num, w1, hb1, rfl⟩
      case measure => simp [intOf]
    · go_wp2
      all_goals first | omega | skip
      go_ret
      obtain ⟨s1, s2⟩ := sing_set hHH.out hb1 N
      refine ⟨s2, ?_⟩
      cases R with
      | error k => obtain rfl : W = k := hNR.out; rfl
      | ok x => obtain ⟨hW0, hx⟩ : W = 0 ∧ { itmE with kind := kind, n := N } = x := hNR.out; subst hW0; subst hx; exact ⟨rfl, rfl, s1⟩
theorem singRead_any (b : Nat) (kind : Int) (hk : kind ≠ 6) (a : Option Addr) (c : Nat) (args : List (List Tok)) (hl : args.length ≤ 1) (w : World) (hA : ArgsIn b w a args) (h : w.heap[b]? = some (.cells (itmCells { itmE with kind := kind } (.slice none 0 0)) 228 (0, 0))) :
    Calls Tryz.prog 228 #[.pointer (some ⟨b, 0, none⟩), .slice a args.length c] w fun e w' => Below b w w' ∧ SgOut b (singF kind args) e w' := by
  match args, hl, hA with
  | [], _, hA =>
    refine (singRead_none b kind a c w h).mono ?_
    rintro e w' ⟨rfl, rfl⟩
    exact ⟨Below.refl _ _, rfl, rfl, h⟩
  | [arg], _, hA => exact singRead_one b kind hk a c arg w hA h
theorem exportRead_any (b : Nat) (a : Option Addr) (c : Nat) (x0 : List Tok) (w : World) (hA : ArgsIn b w a [x0]) (h : w.heap[b]? = some (.cells #[.string (str [])] 237 (0, 0))) :
    Calls Tryz.prog 267 #[.pointer (some ⟨b, 0, none⟩), .slice a 1 c] w fun e w' => Below b w w' ∧ ExOut b (nameF x0) e w' := by
  obtain ⟨G, a', c', rfl, hG, hcell, hT, _⟩ := args_at1 hA
  have hnm := name_any a' c' x0 w hT.lies hT.short
  clear hT hA
  generalize x0.length = ln at hnm hcell
  generalize nameF x0 = R at hnm ⊢
  have hlt := blk_lt h
  have hHH := Hid.intro h
  clear h
  obtain ⟨N, W, hN, hNR⟩ := nam_w R
  rw [hN] at hnm
  replace hnm := Hid.intro hnm
  replace hNR := Hid.intro hNR
  clear hN
  go_enter Tryz.func267, Tryz.ntmps267
  go_wp2_with (go_at_call 265; (with_reducible refine (hnm.out).mono ?_); rintro e w1 ⟨rfl, hb1⟩; have hh1 := (show w1.heap[b]? = some (.cells #[.string (str [])] 237 (0, 0)) from by rw [hb1.block b hlt]; exact hHH.out); have z0 := (cell_blockT hh1 0).trans rfl; have f0 := frozen_of_row w1 b 0 _ 237 hh1; replace hh1 := Hid.intro hh1)
  all_goals first | omega | skip
  go_ret
  obtain ⟨s1, s2⟩ := row_set hh1.out 0 (.string (str N))
  have := hb1.size
  refine ⟨(hb1.mono (by omega)).grown s2 (by omega) (fun j hj => by cases hj; exact Nat.le_refl _), ?_⟩
  cases R with
  | error k => obtain rfl : W = k := hNR.out; rfl
  | ok n => obtain ⟨rfl, rfl⟩ : N = n ∧ W = 0 := hNR.out; exact ⟨rfl, s1⟩
theorem segmentRead_any (b : Nat) (a : Option Addr) (c : Nat) (x0 : List Tok) (w : World) (hA : ArgsIn b w a [x0]) (h : w.heap[b]? = some (.cells #[.int .i64 0] 240 (0, 0))) :
    Calls Tryz.prog 268 #[.pointer (some ⟨b, 0, none⟩), .slice a 1 c] w fun e w' => Below b w w' ∧ SeOut b (secF x0) e w' := by
  obtain ⟨G, a', c', rfl, hG, hcell, hT, _⟩ := args_at1 hA
  have hw := word_any a' c' x0 w hT.lies
  have hF : secF x0 = if wordF x0 = sText then .ok ⟨5, [], [], linE, 0⟩ else if wordF x0 = sData then .ok ⟨5, [], [], linE, 1⟩ else .error 20 := rfl
  rw [hF]
  clear hF hT hA
  generalize x0.length = ln at hw hcell
  generalize wordF x0 = wd at hw ⊢
  have hlt := blk_lt h
  have z0 := (cell_blockT h 0).trans rfl
  have f0 := frozen_of_row w b 0 _ 240 h
  obtain ⟨s1, s2⟩ := row_set h 0 (.int .i64 0)
  obtain ⟨t1, t2⟩ := row_set h 0 (.int .i64 1)
  replace s1 := Hid.intro s1
  replace s2 := Hid.intro s2
  replace t1 := Hid.intro t1
  replace t2 := Hid.intro t2
  replace hw := Hid.intro hw
  clear h
  by_cases h1 : wd = sText
  · rw [if_pos h1]
    have d1 : ((str wd).toList == [116, 101, 120, 116]) = true := by rw [str_toList, h1]; rfl
    clear h1
    go_enter Tryz.func268, Tryz.ntmps268
    go_wp2_with (go_at_call 266; (with_reducible refine (hw.out).mono ?_); rintro e w1 ⟨rfl, hw1⟩; subst hw1)
    all_goals first | omega | skip
    go_ret
    exact ⟨below_of_grown s2.out (Nat.le_refl _) (by omega), rfl, rfl, s1.out⟩
  · rw [if_neg h1]
    have d1 : ((str wd).toList == [116, 101, 120, 116]) = false := by rw [str_toList]; exact beq_false_of_ne h1
    clear h1
    by_cases h2 : wd = sData
    · rw [if_pos h2]
      have d2 : ((str wd).toList == [100, 97, 116, 97]) = true := by rw [str_toList, h2]; rfl
      clear h2
      go_enter Tryz.func268, Tryz.ntmps268
      go_wp2_with (go_at_call 266; (with_reducible refine (hw.out).mono ?_); rintro e w1 ⟨rfl, hw1⟩; subst hw1)
      all_goals first | omega | skip
      go_ret
      exact ⟨below_of_grown t2.out (Nat.le_refl _) (by omega), rfl, rfl, t1.out⟩
    · rw [if_neg h2]
      have d2 : ((str wd).toList == [100, 97, 116, 97]) = false := by rw [str_toList]; exact beq_false_of_ne h2
      clear h2
      go_enter Tryz.func268, Tryz.ntmps268
      go_wp2_with (go_at_call 266; (with_reducible refine (hw.out).mono ?_); rintro e w1 ⟨rfl, hw1⟩; subst hw1)
      all_goals first | omega | skip
      go_ret
      exact ⟨Below.refl _ _, rfl⟩
theorem parse_two (a : Option Addr) (c : Nat) (arg : List Tok) (w : World) (hT : Toks w a c arg) :
    Calls Tryz.prog 231 #[.slice a arg.length c] w fun e w' => Below w.heap.size w w' ∧ ∃ y vb m vd, e = .returned (.tuple #[linV (.slice vb m vd) y.const, .int .i64 (whyOf (parseF arg))]) ∧ w'.ownsRow w.heap.size 123 2 (.slice vb m vd) y.terms.length (rowT y.terms) ∧ (∀ x', parseF arg = .ok x' → x' = y) := by
  refine (parse_any a c arg w hT).mono ?_
  rintro e w' ⟨hb, hm⟩
  refine ⟨hb, ?_⟩
  cases hp : parseF arg with
  | error k =>
    rw [hp] at hm
    simp only at hm
    subst hm
    exact ⟨linE, none, 0, 0, rfl, ⟨by simp [linE, rowT], .inl ⟨rfl, rfl⟩⟩, fun x' h => by cases h⟩
  | ok y =>
    rw [hp] at hm
    obtain ⟨va, n, vc, rfl, ho⟩ := hm
    exact ⟨y, va, n, vc, rfl, ho, fun x' h => by cases h; rfl⟩
theorem nameF_err {arg : List Tok} {k : Int} (h : nameF arg = .error k) : k = 20 := by
  unfold nameF at h
  split at h
  · cases h
  · cases h; rfl
set_option maxHeartbeats 1000000 in
theorem equRead_any (b : Nat) (a : Option Addr) (c : Nat) (x0 x1 : List Tok) (w : World) (hA : ArgsIn b w a [x0, x1]) (h : w.heap[b]? = some (.cells #[.string (str []), .slice none 0 0, .int .u32 0] 234 (0, 0))) :
    Calls Tryz.prog 264 #[.pointer (some ⟨b, 0, none⟩), .slice a 2 c] w fun e w' => Below b w w' ∧ EqOut b (equF x0 x1) e w' := by
  obtain ⟨G, a', c', rfl, hG, hcell, hT, _⟩ := args_at1 hA
  have hnm := name_any a' c' x0 w hT.lies hT.short
  have hlt := blk_lt h
  have hprs : Hid (∀ w1, Below b w w1 → ∃ a2 c2, w1.cell? ⟨G, 1, none⟩ = some (.slice a2 x1.length c2) ∧ Calls Tryz.prog 231 #[.slice a2 x1.length c2] w1 fun e w' => Below w1.heap.size w1 w' ∧ ∃ y vb m vd, e = .returned (.tuple #[linV (.slice vb m vd) y.const, .int .i64 (whyOf (parseF x1))]) ∧ w'.ownsRow w1.heap.size 123 2 (.slice vb m vd) y.terms.length (rowT y.terms) ∧ (∀ x', parseF x1 = .ok x' → x' = y)) := fun w1 hb => by
    obtain ⟨G', a2, c2, hG', _, k1, k2, _⟩ := (hA.below hb).at (i := 1) (xs := x1) rfl
    cases hG'
    exact ⟨a2, c2, k1, parse_two a2 c2 x1 w1 k2⟩
  clear hT hA
  generalize x0.length = ln at hnm hcell
  generalize x1.length = ln1 at hprs
  have hHH := Hid.intro h
  clear h
  cases hnf : nameF x0 with
  | error k =>
    rw [show equF x0 x1 = .error k from by unfold equF; rw [hnf]]
    obtain rfl := nameF_err hnf
    rw [hnf] at hnm
    simp only [nameVI] at hnm
    replace hnm := Hid.intro hnm
    clear hprs hnf
    go_enter Tryz.func264, Tryz.ntmps264
    go_wp2_with (go_at_call 265; (with_reducible refine (hnm.out).mono ?_); rintro e w1 ⟨rfl, hb1⟩; have hh1 := (show w1.heap[b]? = some (.cells #[.string (str []), .slice none 0 0, .int .u32 0] 234 (0, 0)) from by rw [hb1.block b hlt]; exact hHH.out); have z0 := (cell_blockT hh1 0).trans rfl; have f0 := frozen_of_row w1 b 0 _ 234 hh1; replace hh1 := Hid.intro hh1)
    all_goals first | omega | skip
    go_ret
    obtain ⟨s1, s2⟩ := row_set hh1.out 0 (.string ⟨#[]⟩)
    have := hb1.size
    exact ⟨(hb1.mono (by omega)).grown s2 (by omega) (fun j hj => by cases hj; exact Nat.le_refl _), rfl⟩
  | ok s =>
    rw [show equF x0 x1 = EquR s (parseF x1) from by unfold equF; rw [hnf]; rfl]
    rw [hnf] at hnm
    simp only [nameVI] at hnm
    replace hnm := Hid.intro hnm
    clear hnf
    generalize parseF x1 = R1 at hprs ⊢
    obtain ⟨W, hW1, hW2⟩ : ∃ W, whyOf R1 = W ∧ LinW R1 W := ⟨_, rfl, by cases R1 <;> rfl⟩
    rw [hW1] at hprs
    replace hW2 := Hid.intro hW2
    clear hW1
    go_enter Tryz.func264, Tryz.ntmps264
    go_upto_region 4 with (go_at_call 265; (with_reducible refine (hnm.out).mono ?_); rintro e w1 ⟨rfl, hb1⟩; have hh1 := (show w1.heap[b]? = some (.cells #[.string (str []), .slice none 0 0, .int .u32 0] 234 (0, 0)) from by rw [hb1.block b hlt]; exact hHH.out); have z0 := (cell_blockT hh1 0).trans rfl; have f0 := frozen_of_row w1 b 0 _ 234 hh1; replace hh1 := Hid.intro hh1)
    all_goals first | omega | skip
    obtain ⟨s1, s2⟩ := row_set hh1.out 0 (.string (str s))
    have hsz1 := hb1.size
    have hB1 : Below b w (w1.setCell ⟨b, 0, none⟩ (.string (str s))) := (hb1.mono (by omega)).grown s2 (by omega) (fun j hj => by cases hj; exact Nat.le_refl _)
    have s1' : (w1.setCell ⟨b, 0, none⟩ (.string (str s))).heap[b]? = some (.cells #[.string (str s), .slice none 0 0, .int .u32 0] 234 (0, 0)) := s1
    generalize (w1.setCell ⟨b, 0, none⟩ (.string (str s))) = w2 at s1' hB1 ⊢
    clear s1 s2 z0 f0 hh1 hHH hnm hcell
    have hlt2 := blk_lt s1'
    obtain ⟨a2, c2, hcell2, hp2⟩ := hprs.out w2 hB1
    replace hp2 := Hid.intro hp2
    replace s1' := Hid.intro s1'
    go_wp2_with (go_at_call 231; (with_reducible refine (hp2.out).mono ?_); rintro e w3 ⟨hb3, y, vb, m, vd, rfl, ho, hx⟩; have hh3 := (show w3.heap[b]? = some (.cells #[.string (str s), .slice none 0 0, .int .u32 0] 234 (0, 0)) from by rw [hb3.block b hlt2]; exact s1'.out); have z1 := (cell_blockT hh3 1).trans rfl; have z2 := (cell_blockT hh3 2).trans rfl; have f1 := frozen_of_row w3 b 1 _ 234 hh3; have f2 := frozen_of_row w3 b 2 _ 234 hh3; replace hh3 := Hid.intro hh3)
    all_goals first | omega | skip
    go_ret
    obtain ⟨u1, u2⟩ := row_set hh3.out 1 (.slice vb m vd)
    obtain ⟨v1, v2⟩ := row_set u1 2 (.int .u32 y.const)
    have hsz3 := hb3.size
    have hg := grown_trans u2 v2
    refine ⟨(hB1.trans (hb3.mono (by omega))).grown hg (by omega) (fun j hj => by cases hj; exact Nat.le_refl _), ?_⟩
    cases R1 with
    | error k => obtain rfl : W = k := hW2.out; rfl
    | ok y' =>
      have : W = 0 := hW2.out
      subst this
      obtain rfl := hx y' rfl
      exact ⟨rfl, s, y', rfl, vb, m, vd, v1, own_low (own_weaken ho (by omega)) hg (by omega)⟩
end Go.Proofs.YtogkchgjpflmjaaGreatDoor
/- Two lists of terms, merged by name; for canonical lists that is their sum. -/
namespace Go.Proofs.YtogkchgjpflmjaaGreatDoor
set_option linter.unusedVariables false
def mrg : List Tm → List Tm → List Tm
  | [], ys => ys
  | x :: xs, [] => x :: xs
  | x :: xs, y :: ys =>
    if nlt x.name y.name = true then x :: mrg xs (y :: ys)
    else if nlt y.name x.name = true then y :: mrg (x :: xs) ys
    else emit x.name ((x.coef + y.coef) % 4294967296) (mrg xs ys)
termination_by xs ys => xs.length + ys.length
end Go.Proofs.YtogkchgjpflmjaaGreatDoor
/- The document's Times. -/
namespace Go.Proofs.YtogkchgjpflmjaaGreatDoor
open Go.ChangeShapes Go.WideShapes Go.ChangeAt Go.RowKit
set_option linter.unusedVariables false
set_option maxRecDepth 100000
theorem own_below' {w w' : World} {B : Nat} {e : TypeId} {size : Nat} {v : Value} {n : Nat} {xs : List Value} (h : w.ownsRow B e size v n xs) (hb : Below w.heap.size w w') : w'.ownsRow B e size v n xs := by
  obtain ⟨hl, h | ⟨g, cap, cur, hv, hbg, hg, r⟩⟩ := h
  · exact ⟨hl, .inl h⟩
  · exact ⟨hl, .inr ⟨g, cap, cur, hv, hbg, by rw [hb.block g (Array.getElem?_eq_some_iff.1 hg).1]; exact hg, r⟩⟩
structure OSt (w : World) (gr go lo : Nat) (kc : Int) (zs : List Tm) (v : Value) (wr : World) : Prop where
  res : Two wr gr 89 (.slice none 0 0) (.int .u32 0)
  out : Two wr go 89 v (.int .u32 kc)
  own : wr.ownsRow lo 123 2 v zs.length (rowT zs)
  bel : Below w.heap.size w wr
  l1 : w.heap.size ≤ gr
  l2 : gr < go
  l3 : go < lo
  l4 : lo ≤ wr.heap.size
theorem OSt.kept {w wr wr' : World} {gr go lo : Nat} {kc : Int} {zs : List Tm} {v : Value} (h : OSt w gr go lo kc zs v wr) (hb : Below wr.heap.size wr wr') : OSt w gr go lo kc zs v wr' :=
  ⟨h.res.below hb (by have := h.l2; have := h.l3; have := h.l4; omega), h.out.below hb (by have := h.l3; have := h.l4; omega), own_below' h.own hb, h.bel.trans (hb.mono h.bel.size), h.l1, h.l2, h.l3, Nat.le_trans h.l4 hb.size⟩
theorem OSt.push {w wr wa w3 : World} {gr go lo L c1 : Nat} {kc : Int} {zs : List Tm} {t : Tm} {a1 : Option Addr} {v2 : Value} (h : OSt w gr go lo kc zs (.slice a1 L c1) wr) (hL : L = zs.length) (hb : Below wr.heap.size wr wa)
    (hown : w3.ownsRow lo 123 2 v2 (L + 1) (rowT (zs ++ [t]))) (hg : wa.grownBy w3 (Value.slice a1 L c1).ownBlock) : OSt w gr go lo kc (zs ++ [t]) v2 (w3.setCell ⟨go, 0, none⟩ v2) := by
  have hk := h.kept hb
  have hnb : (Value.slice a1 L c1).ownBlock ≠ some gr := fun e => by have := (h.own.lt _ e).1; have := h.l2; have := h.l3; omega
  have hnb2 : (Value.slice a1 L c1).ownBlock ≠ some go := fun e => by have := (h.own.lt _ e).1; have := h.l3; omega
  have hr := hk.res.grown hg hnb
  have ho := hk.out.grown hg hnb2
  obtain ⟨s1, s2⟩ := two_put ho v2
  have hs3 := hg.size
  have h4 := hk.l4
  have h1 := h.l1
  have h2 := h.l2
  have h3 := h.l3
  refine ⟨hr.grown s2 (by simp; omega), s1, ?_, ?_, h.l1, h.l2, h.l3, by have := s2.size; omega⟩
  · rw [List.length_append, List.length_singleton, ← hL]
    exact own_low hown s2 (by omega)
  · refine Below.grown ?_ s2 (by have := hk.bel.size; omega) (fun j hj => by cases hj; omega)
    exact hk.bel.grown hg hk.bel.size (fun j hj => by have := (h.own.lt _ hj).1; omega)
theorem two_far {w wr wa w3 : World} {gr go lo L c1 : Nat} {kc : Int} {zs : List Tm} {a1 : Option Addr} (h : OSt w gr go lo kc zs (.slice a1 L c1) wr) (hb : Below wr.heap.size wr wa) (hg : wa.grownBy w3 (Value.slice a1 L c1).ownBlock) : Two w3 go 89 (.slice a1 L c1) (.int .u32 kc) :=
  (h.kept hb).out.grown hg (fun e => by have := (h.own.lt _ e).1; have := h.l3; omega)
theorem two_beside {w wr wa w3 : World} {gr go lo L c1 gx : Nat} {kc : Int} {zs : List Tm} {a1 : Option Addr} {v2 X Y : Value} {T : TypeId} (h : OSt w gr go lo kc zs (.slice a1 L c1) wr) (hX : Two wr gx T X Y) (hgx : gx < gr) (hb : Below wr.heap.size wr wa) (hg : wa.grownBy w3 (Value.slice a1 L c1).ownBlock) : Two (w3.setCell ⟨go, 0, none⟩ v2) gx T X Y := by
  have h2 := h.l2
  have h3 := h.l3
  have h4 := h.l4
  obtain ⟨_, s2⟩ := two_put (two_far h hb hg) v2
  exact ((hX.below hb (by omega)).grown hg (fun e => by have := (h.own.lt _ e).1; omega)).grown s2 (by simp; omega)
end Go.Proofs.YtogkchgjpflmjaaGreatDoor
namespace Go.Proofs.YtogkchgjpflmjaaGreatDoor
open Go.ChangeShapes Go.WideShapes Go.ChangeAt Go.RowKit
set_option linter.unusedVariables false
set_option maxRecDepth 100000
structure BelowQ (w : World) where
  wd : World
  h : Below w.heap.size w wd
instance {w : World} : Inhabited (BelowQ w) := ⟨⟨w, Below.refl _ _⟩⟩
theorem BelowQ.cell {w : World} (p : BelowQ w) {a : Addr} {v : Value} (ha : a.block < w.heap.size) (h : w.cell? a = some v) : p.wd.cell? a = some v := by rw [p.h.cell ha]; exact h
structure ASt (w : World) (a1 a2 : Option Addr) (c1 c2 n1 n2 : Nat) (xs ys : List Tm) (k1 k2 kc : Int) (i j : Nat) (v : Value) (zs : List Tm) (wr : World) : Prop where
  o : OSt w (w.heap.size + 1 + 1) (w.heap.size + 1 + 1 + 1) (w.heap.size + 1 + 1 + 1 + 1) kc zs v wr
  x : Two wr w.heap.size 89 (.slice a1 n1 c1) (.int .u32 k1)
  y : Two wr (w.heap.size + 1) 89 (.slice a2 n2 c2) (.int .u32 k2)
  inv : zs ++ mrg (xs.drop i) (ys.drop j) = mrg xs ys
  len : zs.length ≤ i + j
theorem Two.lt' {w : World} {g : Nat} {T : TypeId} {x y : Value} (h : Two w g T x y) : g < w.heap.size := (Array.getElem?_eq_some_iff.1 h.heap).1
theorem ASt.kept {w wr wr' : World} {a1 a2 : Option Addr} {c1 c2 n1 n2 : Nat} {xs ys : List Tm} {k1 k2 kc : Int} {i j : Nat} {v : Value} {zs : List Tm} (h : ASt w a1 a2 c1 c2 n1 n2 xs ys k1 k2 kc i j v zs wr) (hb : Below wr.heap.size wr wr') : ASt w a1 a2 c1 c2 n1 n2 xs ys k1 k2 kc i j v zs wr' :=
  ⟨h.o.kept hb, h.x.below hb h.x.lt', h.y.below hb h.y.lt', h.inv, h.len⟩
theorem ASt.push {w wr wa w3 : World} {a1 a2 : Option Addr} {c1 c2 n1 n2 : Nat} {xs ys : List Tm} {k1 k2 kc : Int} {i j i' j' L d : Nat} {b : Option Addr} {zs : List Tm} {t : Tm} {v2 : Value} (h : ASt w a1 a2 c1 c2 n1 n2 xs ys k1 k2 kc i j (.slice b L d) zs wr) (hL : L = zs.length) (hb : Below wr.heap.size wr wa)
    (hown : w3.ownsRow (w.heap.size + 1 + 1 + 1 + 1) 123 2 v2 (L + 1) (rowT (zs ++ [t]))) (hg : wa.grownBy w3 (Value.slice b L d).ownBlock) (hinv : mrg (xs.drop i) (ys.drop j) = t :: mrg (xs.drop i') (ys.drop j')) (hlen : i + j + 1 ≤ i' + j') :
    ASt w a1 a2 c1 c2 n1 n2 xs ys k1 k2 kc i' j' v2 (zs ++ [t]) (w3.setCell ⟨w.heap.size + 1 + 1 + 1, 0, none⟩ v2) :=
  ⟨h.o.push hL hb hown hg, two_beside h.o h.x (by omega) hb hg, two_beside h.o h.y (by omega) hb hg, by rw [List.append_assoc, List.singleton_append, ← hinv, h.inv], by have := h.len; simp; omega⟩
theorem ASt.skip {w wr : World} {a1 a2 : Option Addr} {c1 c2 n1 n2 : Nat} {xs ys : List Tm} {k1 k2 kc : Int} {i j i' j' : Nat} {v : Value} {zs : List Tm} (h : ASt w a1 a2 c1 c2 n1 n2 xs ys k1 k2 kc i j v zs wr) (hinv : mrg (xs.drop i) (ys.drop j) = mrg (xs.drop i') (ys.drop j')) (hlen : i + j ≤ i' + j') : ASt w a1 a2 c1 c2 n1 n2 xs ys k1 k2 kc i' j' v zs wr :=
  ⟨h.o, h.x, h.y, by rw [← hinv]; exact h.inv, Nat.le_trans h.len hlen⟩
end Go.Proofs.YtogkchgjpflmjaaGreatDoor
