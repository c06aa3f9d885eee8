/- item's Read, of any line. -/
import Derived.Test.YtlkmegchaeokgaaGreatDoorIt9
import Derived.Deep.Cut
import Derived.Test.YtlkmegchaeokgaaGreatDoorSameL
import Derived.Test.YtlkmegchaeokgaaGreatDoorRefAdd
/- What a line says, as a function. -/
namespace Go.Proofs.YtlkmegchaeokgaaGreatDoor
open Go.ChangeShapes Go.WideShapes Go.ChangeAt Go.RowKit
set_option linter.unusedVariables false
set_option maxRecDepth 100000
abbrev sAlign : List UInt8 := [97, 108, 105, 103, 110]
abbrev sPool : List UInt8 := [112, 111, 111, 108]
abbrev sByte : List UInt8 := [98, 121, 116, 101]
abbrev sWord : List UInt8 := [119, 111, 114, 100]
abbrev sSpace : List UInt8 := [115, 112, 97, 99, 101]
abbrev sEqu : List UInt8 := [101, 113, 117]
abbrev sGlobal : List UInt8 := [103, 108, 111, 98, 97, 108]
abbrev sSection : List UInt8 := [115, 101, 99, 116, 105, 111, 110]
abbrev sText : List UInt8 := [116, 101, 120, 116]
abbrev sData : List UInt8 := [100, 97, 116, 97]
def itOf (kind : Int) (arg : List Tok) : Except Int Itm :=
 if kind = 6 then exprF arg { itmE with kind := 6 }
 else match numF kind arg with
  | .error k => .error k
  | .ok n => .ok { itmE with kind := kind, n := n }
def itsF (kind : Int) : List (List Tok) -> Except Int (List Itm)
 | [] => .ok []
 | arg :: r =>
  match itOf kind arg with
  | .error k => .error k
  | .ok x =>
   match itsF kind r with
   | .error k => .error k
   | .ok l => .ok (x :: l)
def singF (kind : Int) : List (List Tok) -> Except Int Itm
 | [] => .ok { itmE with kind := kind }
 | arg :: _ => itOf kind arg
def standsT (t : Thg) (sec : Int) : Except Int Thg := if (t.items.all fun x => standsB x.kind sec) = true then .ok t else .error 21
def singThg (kind : Int) (m : Nat) (args : List (List Tok)) (sec : Int) : Except Int Thg :=
 if args.length ≠ m then .error 20
 else match singF kind args with
  | .error k => .error k
  | .ok x => standsT ⟨1, [x], [], linE, 0⟩ sec
def sevThg (kind : Int) (args : List (List Tok)) (sec : Int) : Except Int Thg :=
 if args.length = 0 then .error 20
 else match itsF kind args with
  | .error k => .error k
  | .ok l => standsT ⟨2, l, [], linE, 0⟩ sec
def equF (a0 a1 : List Tok) : Except Int Thg :=
 match nameF a0 with
 | .error k => .error k
 | .ok s =>
  match parseF a1 with
  | .error k => .error k
  | .ok y => .ok ⟨3, [], s, y, 0⟩
def equThg : List (List Tok) -> Except Int Thg
 | [a0, a1] => equF a0 a1
 | _ => .error 20
def gloF (a0 : List Tok) : Except Int Thg :=
 match nameF a0 with
 | .error k => .error k
 | .ok s => .ok ⟨4, [], s, linE, 0⟩
def gloThg : List (List Tok) -> Except Int Thg
 | [a0] => gloF a0
 | _ => .error 20
def secF (a0 : List Tok) : Except Int Thg := if wordF a0 = sText then .ok ⟨5, [], [], linE, 0⟩ else if wordF a0 = sData then .ok ⟨5, [], [], linE, 1⟩ else .error 20
def secThg : List (List Tok) -> Except Int Thg
 | [a0] => secF a0
 | _ => .error 20
def readF (s : List UInt8) (args : List (List Tok)) (sec : Int) : Except Int Thg :=
 if s = [] then .ok thgE
 else if s = sAlign then singThg 3 1 args sec
 else if s = sPool then singThg 4 0 args sec
 else if s = sByte then sevThg 5 args sec
 else if s = sWord then sevThg 6 args sec
 else if s = sSpace then singThg 7 1 args sec
 else if s = sEqu then equThg args
 else if s = sGlobal then gloThg args
 else if s = sSection then secThg args
 else if findN s = 0 then .error 20
 else opThg s args sec
def FewA (args : List (List Tok)) : Prop := ∀ arg ∈ args, arg.length <= 1100000
theorem findN_range (s : List UInt8) : 0 <= findN s /\ findN s <= 43 := by
 unfold findN
 split
 ·rename_i i hi
  have := (List.findIdx?_eq_some_iff_getElem.1 hi).1
  have h43 : opsT.length = 43 := rfl
  omega
 ·omega
theorem itOf_kind {kind : Int} {arg : List Tok} {x : Itm} (h : itOf kind arg = .ok x) : x.kind = kind := by
 unfold itOf at h
 split at h
 ·rename_i h6
  unfold exprF at h
  split at h
  ·cases h
  ·cases h; exact h6.symm
 ·split at h
  ·cases h
  ·cases h; rfl
theorem itsF_kind {kind : Int} : ∀ {args : List (List Tok)} {l : List Itm}, itsF kind args = .ok l -> l.length = args.length /\ ∀ x ∈ l, x.kind = kind := by
 intro args
 induction args with
 | nil => intro l h; cases h; exact ⟨rfl, fun x hx => by cases hx⟩
 | cons arg r ih =>
  intro l h
  rw [itsF] at h
  split at h
  ·cases h
  ·rename_i x hx
   split at h
   ·cases h
   ·rename_i l' hl'
    cases h
    obtain ⟨h1, h2⟩ := ih hl'
    refine ⟨by simp [h1], fun y hy => ?_⟩
    rcases List.mem_cons.1 hy with rfl | hy
    ·exact itOf_kind hx
    ·exact h2 y hy
theorem stepF_kind {wc : Int} {p : Nat} {arg : List Tok} {y z : Itm} (h : stepF wc p arg y = .ok z) : z.kind = y.kind := by
 have hx : ∀ {r : List Tok}, exprF r y = .ok z -> z.kind = y.kind := fun h => by
  unfold exprF at h
  split at h
  ·cases h
  ·cases h; rfl
 unfold stepF at h
 split at h
 ·split at h
  ·cases h
  ·cases h
   unfold setReg
   split
   ·rfl
   ·split <;> rfl
 ·split at h
  ·split at h
   ·cases h
   ·split at h
    ·cases h; rfl
    ·cases h
  ·split at h
   ·split at h
    ·cases h
    ·split at h
     ·exact hx h
     ·cases h
   ·exact hx h
theorem opF_kind {wants : List UInt8} : ∀ {args : List (List Tok)} {p : Nat} {y x : Itm}, opF wants args p y = .ok x -> x.kind = y.kind := by
 intro args
 induction args with
 | nil => intro p y x h; cases h; rfl
 | cons arg r ih =>
  intro p y x h
  rw [opF] at h
  split at h
  ·cases h
  ·rename_i y' hy
   exact (ih h).trans (stepF_kind hy)
theorem six_read {T : TypeId} {w : World} {g : Nat} {v0 v1 v2 v3 v4 v5 : Value} (h : w.heap[g]? = some (.cells #[v0, v1, v2, v3, v4, v5] T (0, 0))) : w.cell? ⟨g, 0, none⟩ = some v0 /\ w.cell? ⟨g, 1, none⟩ = some v1 /\ w.cell? ⟨g, 2, none⟩ = some v2 /\ w.cell? ⟨g, 3, none⟩ = some v3 /\ w.cell? ⟨g, 4, none⟩ = some v4 /\ w.cell? ⟨g, 5, none⟩ = some v5 :=
 ⟨(cell_blockT h 0).trans rfl, (cell_blockT h 1).trans rfl, (cell_blockT h 2).trans rfl, (cell_blockT h 3).trans rfl, (cell_blockT h 4).trans rfl, (cell_blockT h 5).trans rfl⟩
end Go.Proofs.YtlkmegchaeokgaaGreatDoor
/- item's readerOf of the directives; said of their readers. -/
namespace Go.Proofs.YtlkmegchaeokgaaGreatDoor
open Go.ChangeShapes Go.WideShapes Go.ChangeAt Go.RowKit
set_option linter.unusedVariables false
set_option maxRecDepth 100000
theorem readerOf_align (w : World) :
  Calls Tryz.prog 42 #[.string (str sAlign)] w fun e w' => Below w.heap.size w w' /\ ∃ b, w.heap.size <= b /\ e = .returned (.tuple #[.iface 119 (.pointer (some ⟨b, 0, none⟩)), .int .i64 1, .int .i64 1]) /\ w'.heap[b]? = some (.cells (itmCells { itmE with kind := 3 } (.slice none 0 0)) 121 (0, 0)) := by
 generalize hS : str sAlign = S
 have d0 : (S.toList == [97, 108, 105, 103, 110]) = true := by rw [<- hS, str_toList]; rfl
 clear hS
 go_enter Tryz.func42, Tryz.ntmps42
 go_wp2
 all_goals first | omega | skip
 go_ret3
 exact ⟨below_alloc w _, w.heap.size, Nat.le_refl _, rfl, heap_alloc_new w _⟩
theorem readerOf_pool (w : World) :
  Calls Tryz.prog 42 #[.string (str sPool)] w fun e w' => Below w.heap.size w w' /\ ∃ b, w.heap.size <= b /\ e = .returned (.tuple #[.iface 119 (.pointer (some ⟨b, 0, none⟩)), .int .i64 0, .int .i64 0]) /\ w'.heap[b]? = some (.cells (itmCells { itmE with kind := 4 } (.slice none 0 0)) 121 (0, 0)) := by
 generalize hS : str sPool = S
 have d0 : (S.toList == [97, 108, 105, 103, 110]) = false := by rw [<- hS, str_toList]; rfl
 have d1 : (S.toList == [112, 111, 111, 108]) = true := by rw [<- hS, str_toList]; rfl
 clear hS
 go_enter Tryz.func42, Tryz.ntmps42
 go_wp2
 all_goals first | omega | skip
 go_ret3
 exact ⟨below_alloc w _, w.heap.size, Nat.le_refl _, rfl, heap_alloc_new w _⟩
theorem readerOf_byte (w : World) :
  Calls Tryz.prog 42 #[.string (str sByte)] w fun e w' => Below w.heap.size w w' /\ ∃ b, w.heap.size <= b /\ e = .returned (.tuple #[.iface 122 (.pointer (some ⟨b, 0, none⟩)), .int .i64 1, .int .i64 9223372036854775807]) /\ w'.heap[b]? = some (.cells #[.int .i64 5, .slice none 0 0] 124 (0, 0)) := by
 generalize hS : str sByte = S
 have d0 : (S.toList == [97, 108, 105, 103, 110]) = false := by rw [<- hS, str_toList]; rfl
 have d1 : (S.toList == [112, 111, 111, 108]) = false := by rw [<- hS, str_toList]; rfl
 have d2 : (S.toList == [98, 121, 116, 101]) = true := by rw [<- hS, str_toList]; rfl
 clear hS
 go_enter Tryz.func42, Tryz.ntmps42
 go_wp2
 all_goals first | omega | skip
 go_ret3
 exact ⟨below_alloc w _, w.heap.size, Nat.le_refl _, rfl, heap_alloc_new w _⟩
theorem readerOf_word (w : World) :
  Calls Tryz.prog 42 #[.string (str sWord)] w fun e w' => Below w.heap.size w w' /\ ∃ b, w.heap.size <= b /\ e = .returned (.tuple #[.iface 122 (.pointer (some ⟨b, 0, none⟩)), .int .i64 1, .int .i64 9223372036854775807]) /\ w'.heap[b]? = some (.cells #[.int .i64 6, .slice none 0 0] 124 (0, 0)) := by
 generalize hS : str sWord = S
 have d0 : (S.toList == [97, 108, 105, 103, 110]) = false := by rw [<- hS, str_toList]; rfl
 have d1 : (S.toList == [112, 111, 111, 108]) = false := by rw [<- hS, str_toList]; rfl
 have d2 : (S.toList == [98, 121, 116, 101]) = false := by rw [<- hS, str_toList]; rfl
 have d3 : (S.toList == [119, 111, 114, 100]) = true := by rw [<- hS, str_toList]; rfl
 clear hS
 go_enter Tryz.func42, Tryz.ntmps42
 go_wp2
 all_goals first | omega | skip
 go_ret3
 exact ⟨below_alloc w _, w.heap.size, Nat.le_refl _, rfl, heap_alloc_new w _⟩
theorem readerOf_space (w : World) :
  Calls Tryz.prog 42 #[.string (str sSpace)] w fun e w' => Below w.heap.size w w' /\ ∃ b, w.heap.size <= b /\ e = .returned (.tuple #[.iface 119 (.pointer (some ⟨b, 0, none⟩)), .int .i64 1, .int .i64 1]) /\ w'.heap[b]? = some (.cells (itmCells { itmE with kind := 7 } (.slice none 0 0)) 121 (0, 0)) := by
 generalize hS : str sSpace = S
 have d0 : (S.toList == [97, 108, 105, 103, 110]) = false := by rw [<- hS, str_toList]; rfl
 have d1 : (S.toList == [112, 111, 111, 108]) = false := by rw [<- hS, str_toList]; rfl
 have d2 : (S.toList == [98, 121, 116, 101]) = false := by rw [<- hS, str_toList]; rfl
 have d3 : (S.toList == [119, 111, 114, 100]) = false := by rw [<- hS, str_toList]; rfl
 have d4 : (S.toList == [115, 112, 97, 99, 101]) = true := by rw [<- hS, str_toList]; rfl
 clear hS
 go_enter Tryz.func42, Tryz.ntmps42
 go_wp2
 all_goals first | omega | skip
 go_ret3
 exact ⟨below_alloc w _, w.heap.size, Nat.le_refl _, rfl, heap_alloc_new w _⟩
theorem readerOf_equ (w : World) :
  Calls Tryz.prog 42 #[.string (str sEqu)] w fun e w' => Below w.heap.size w w' /\ ∃ b, w.heap.size <= b /\ e = .returned (.tuple #[.iface 125 (.pointer (some ⟨b, 0, none⟩)), .int .i64 2, .int .i64 2]) /\ w'.heap[b]? = some (.cells #[.string (str []), .slice none 0 0, .int .u32 0] 127 (0, 0)) := by
 generalize hS : str sEqu = S
 have d0 : (S.toList == [97, 108, 105, 103, 110]) = false := by rw [<- hS, str_toList]; rfl
 have d1 : (S.toList == [112, 111, 111, 108]) = false := by rw [<- hS, str_toList]; rfl
 have d2 : (S.toList == [98, 121, 116, 101]) = false := by rw [<- hS, str_toList]; rfl
 have d3 : (S.toList == [119, 111, 114, 100]) = false := by rw [<- hS, str_toList]; rfl
 have d4 : (S.toList == [115, 112, 97, 99, 101]) = false := by rw [<- hS, str_toList]; rfl
 have d5 : (S.toList == [101, 113, 117]) = true := by rw [<- hS, str_toList]; rfl
 clear hS
 go_enter Tryz.func42, Tryz.ntmps42
 go_wp2
 all_goals first | omega | skip
 go_ret3
 exact ⟨below_alloc w _, w.heap.size, Nat.le_refl _, rfl, heap_alloc_new w _⟩
theorem readerOf_global (w : World) :
  Calls Tryz.prog 42 #[.string (str sGlobal)] w fun e w' => Below w.heap.size w w' /\ ∃ b, w.heap.size <= b /\ e = .returned (.tuple #[.iface 128 (.pointer (some ⟨b, 0, none⟩)), .int .i64 1, .int .i64 1]) /\ w'.heap[b]? = some (.cells #[.string (str [])] 130 (0, 0)) := by
 generalize hS : str sGlobal = S
 have d0 : (S.toList == [97, 108, 105, 103, 110]) = false := by rw [<- hS, str_toList]; rfl
 have d1 : (S.toList == [112, 111, 111, 108]) = false := by rw [<- hS, str_toList]; rfl
 have d2 : (S.toList == [98, 121, 116, 101]) = false := by rw [<- hS, str_toList]; rfl
 have d3 : (S.toList == [119, 111, 114, 100]) = false := by rw [<- hS, str_toList]; rfl
 have d4 : (S.toList == [115, 112, 97, 99, 101]) = false := by rw [<- hS, str_toList]; rfl
 have d5 : (S.toList == [101, 113, 117]) = false := by rw [<- hS, str_toList]; rfl
 have d6 : (S.toList == [103, 108, 111, 98, 97, 108]) = true := by rw [<- hS, str_toList]; rfl
 clear hS
 go_enter Tryz.func42, Tryz.ntmps42
 go_wp2
 all_goals first | omega | skip
 go_ret3
 exact ⟨below_alloc w _, w.heap.size, Nat.le_refl _, rfl, heap_alloc_new w _⟩
theorem readerOf_section (w : World) :
  Calls Tryz.prog 42 #[.string (str sSection)] w fun e w' => Below w.heap.size w w' /\ ∃ b, w.heap.size <= b /\ e = .returned (.tuple #[.iface 131 (.pointer (some ⟨b, 0, none⟩)), .int .i64 1, .int .i64 1]) /\ w'.heap[b]? = some (.cells #[.int .i64 0] 133 (0, 0)) := by
 generalize hS : str sSection = S
 have d0 : (S.toList == [97, 108, 105, 103, 110]) = false := by rw [<- hS, str_toList]; rfl
 have d1 : (S.toList == [112, 111, 111, 108]) = false := by rw [<- hS, str_toList]; rfl
 have d2 : (S.toList == [98, 121, 116, 101]) = false := by rw [<- hS, str_toList]; rfl
 have d3 : (S.toList == [119, 111, 114, 100]) = false := by rw [<- hS, str_toList]; rfl
 have d4 : (S.toList == [115, 112, 97, 99, 101]) = false := by rw [<- hS, str_toList]; rfl
 have d5 : (S.toList == [101, 113, 117]) = false := by rw [<- hS, str_toList]; rfl
 have d6 : (S.toList == [103, 108, 111, 98, 97, 108]) = false := by rw [<- hS, str_toList]; rfl
 have d7 : (S.toList == [115, 101, 99, 116, 105, 111, 110]) = true := by rw [<- hS, str_toList]; rfl
 clear hS
 go_enter Tryz.func42, Tryz.ntmps42
 go_wp2
 all_goals first | omega | skip
 go_ret3
 exact ⟨below_alloc w _, w.heap.size, Nat.le_refl _, rfl, heap_alloc_new w _⟩
theorem readerOf_none (s : List UInt8) (hd : s ∉ dirs) (hf : findN s = 0) (w : World) (hT : Tab w) :
  Calls Tryz.prog 42 #[.string (str s)] w fun e w' => w' = w /\ e = .returned (.tuple #[.nilIface, .int .i64 0, .int .i64 0]) := by
 obtain ⟨d1, d2, d3, d4, d5, d6, d7, d8⟩ := dirs_ne hd
 have hfind := find_any (str s) w hT
 have hnm : nm (str s) = s := by simp [nm, str]
 rw [hnm, hf, show decide ((0 : Int) > 0) = false from rfl] at hfind
 replace hfind := Hid.intro hfind
 clear hnm hT hd hf
 generalize str s = S at d1 d2 d3 d4 d5 d6 d7 d8 hfind ⊢
 go_enter Tryz.func42, Tryz.ntmps42
 go_wp2_with (go_at_call 72; (with_reducible refine (hfind.out).mono ?_); rintro e w1 ⟨rfl, hw1⟩; subst hw1)
 all_goals first | omega | skip
 go_ret3
 exact ⟨rfl, rfl⟩
theorem assert_119_141 (a : Addr) (w : World) : (Instr.typeAssert (.iface 119 (.pointer (some a))) 89 141 true).run Tryz.prog w = .ok (.tuple #[.pointer none, .bool false]) w := by kernel_rfl
theorem assert_119 (a : Addr) (w : World) : (Instr.typeAssert (.iface 119 (.pointer (some a))) 89 119 true).run Tryz.prog w = .ok (.tuple #[.pointer (some a), .bool true]) w := by kernel_rfl
theorem nil_119 (a : Addr) (w : World) : (binOp .eql 89 (.iface 119 (.pointer (some a))) .nilIface).run Tryz.prog w = .ok (.bool false) w := by kernel_rfl
theorem assert_122_141 (a : Addr) (w : World) : (Instr.typeAssert (.iface 122 (.pointer (some a))) 89 141 true).run Tryz.prog w = .ok (.tuple #[.pointer none, .bool false]) w := by kernel_rfl
theorem assert_122_119 (a : Addr) (w : World) : (Instr.typeAssert (.iface 122 (.pointer (some a))) 89 119 true).run Tryz.prog w = .ok (.tuple #[.pointer none, .bool false]) w := by kernel_rfl
theorem assert_122 (a : Addr) (w : World) : (Instr.typeAssert (.iface 122 (.pointer (some a))) 89 122 true).run Tryz.prog w = .ok (.tuple #[.pointer (some a), .bool true]) w := by kernel_rfl
theorem nil_122 (a : Addr) (w : World) : (binOp .eql 89 (.iface 122 (.pointer (some a))) .nilIface).run Tryz.prog w = .ok (.bool false) w := by kernel_rfl
theorem assert_125_141 (a : Addr) (w : World) : (Instr.typeAssert (.iface 125 (.pointer (some a))) 89 141 true).run Tryz.prog w = .ok (.tuple #[.pointer none, .bool false]) w := by kernel_rfl
theorem assert_125_119 (a : Addr) (w : World) : (Instr.typeAssert (.iface 125 (.pointer (some a))) 89 119 true).run Tryz.prog w = .ok (.tuple #[.pointer none, .bool false]) w := by kernel_rfl
theorem assert_125_122 (a : Addr) (w : World) : (Instr.typeAssert (.iface 125 (.pointer (some a))) 89 122 true).run Tryz.prog w = .ok (.tuple #[.pointer none, .bool false]) w := by kernel_rfl
theorem assert_125 (a : Addr) (w : World) : (Instr.typeAssert (.iface 125 (.pointer (some a))) 89 125 true).run Tryz.prog w = .ok (.tuple #[.pointer (some a), .bool true]) w := by kernel_rfl
theorem nil_125 (a : Addr) (w : World) : (binOp .eql 89 (.iface 125 (.pointer (some a))) .nilIface).run Tryz.prog w = .ok (.bool false) w := by kernel_rfl
theorem assert_128_141 (a : Addr) (w : World) : (Instr.typeAssert (.iface 128 (.pointer (some a))) 89 141 true).run Tryz.prog w = .ok (.tuple #[.pointer none, .bool false]) w := by kernel_rfl
theorem assert_128_119 (a : Addr) (w : World) : (Instr.typeAssert (.iface 128 (.pointer (some a))) 89 119 true).run Tryz.prog w = .ok (.tuple #[.pointer none, .bool false]) w := by kernel_rfl
theorem assert_128_122 (a : Addr) (w : World) : (Instr.typeAssert (.iface 128 (.pointer (some a))) 89 122 true).run Tryz.prog w = .ok (.tuple #[.pointer none, .bool false]) w := by kernel_rfl
theorem assert_128_125 (a : Addr) (w : World) : (Instr.typeAssert (.iface 128 (.pointer (some a))) 89 125 true).run Tryz.prog w = .ok (.tuple #[.pointer none, .bool false]) w := by kernel_rfl
theorem assert_128 (a : Addr) (w : World) : (Instr.typeAssert (.iface 128 (.pointer (some a))) 89 128 true).run Tryz.prog w = .ok (.tuple #[.pointer (some a), .bool true]) w := by kernel_rfl
theorem nil_128 (a : Addr) (w : World) : (binOp .eql 89 (.iface 128 (.pointer (some a))) .nilIface).run Tryz.prog w = .ok (.bool false) w := by kernel_rfl
theorem assert_131_141 (a : Addr) (w : World) : (Instr.typeAssert (.iface 131 (.pointer (some a))) 89 141 true).run Tryz.prog w = .ok (.tuple #[.pointer none, .bool false]) w := by kernel_rfl
theorem assert_131_119 (a : Addr) (w : World) : (Instr.typeAssert (.iface 131 (.pointer (some a))) 89 119 true).run Tryz.prog w = .ok (.tuple #[.pointer none, .bool false]) w := by kernel_rfl
theorem assert_131_122 (a : Addr) (w : World) : (Instr.typeAssert (.iface 131 (.pointer (some a))) 89 122 true).run Tryz.prog w = .ok (.tuple #[.pointer none, .bool false]) w := by kernel_rfl
theorem assert_131_125 (a : Addr) (w : World) : (Instr.typeAssert (.iface 131 (.pointer (some a))) 89 125 true).run Tryz.prog w = .ok (.tuple #[.pointer none, .bool false]) w := by kernel_rfl
theorem assert_131_128 (a : Addr) (w : World) : (Instr.typeAssert (.iface 131 (.pointer (some a))) 89 128 true).run Tryz.prog w = .ok (.tuple #[.pointer none, .bool false]) w := by kernel_rfl
theorem assert_131 (a : Addr) (w : World) : (Instr.typeAssert (.iface 131 (.pointer (some a))) 89 131 true).run Tryz.prog w = .ok (.tuple #[.pointer (some a), .bool true]) w := by kernel_rfl
theorem nil_131 (a : Addr) (w : World) : (binOp .eql 89 (.iface 131 (.pointer (some a))) .nilIface).run Tryz.prog w = .ok (.bool false) w := by kernel_rfl
theorem nil_none (w : World) : (binOp .eql 89 .nilIface .nilIface).run Tryz.prog w = .ok (.bool true) w := by kernel_rfl
end Go.Proofs.YtlkmegchaeokgaaGreatDoor
/- item's Read, whatever the reader: its walk behind the three calls. -/
namespace Go.Proofs.YtlkmegchaeokgaaGreatDoor
open Go.ChangeShapes Go.WideShapes Go.ChangeAt Go.RowKit
set_option linter.unusedVariables false
set_option maxRecDepth 100000
def andStands (R : Except Int Thg) (sec : Int) : Except Int Thg := match R with | .error k => .error k | .ok t => standsT t sec
def RdOut (R : Except Int Thg) (RD : Thg -> World -> Nat -> Prop) (e : Ending) (w : World) (b : Nat) : Prop := match R with | .error k => e = .returned (.int .i64 k) | .ok t => e = .returned (.int .i64 0) /\ RD t w b
abbrev rdW (w : World) (lb s : List UInt8) (a : Option Addr) (n0 c : Nat) : World := (w.alloc (.cells #[.string (str lb), .string (str s), .slice a n0 c] 49)).alloc (.cells zero6 37)
theorem rdW_size (w : World) (lb s : List UInt8) (a : Option Addr) (n0 c : Nat) : (rdW w lb s a n0 c).heap.size = w.heap.size + 2 := by simp [rdW]
theorem rdW_below (w : World) (lb s : List UInt8) (a : Option Addr) (n0 c : Nat) : Below w.heap.size w (rdW w lb s a n0 c) := (below_alloc w _).alloc (by simp) _
theorem ro_facts {w w1 : World} {lb s : List UInt8} {a : Option Addr} {n0 c : Nat} (h : Below (rdW w lb s a n0 c).heap.size (rdW w lb s a n0 c) w1) : w1.cell? ⟨w.heap.size, 1, none⟩ = some (.string (str s)) /\ w1.cell? ⟨w.heap.size, 2, none⟩ = some (.slice a n0 c) /\ w1.heap[w.heap.size + 1]? = some (.cells zero6 37 (0, 0)) := by
 have hs := rdW_size w lb s a n0 c
 have h0 : w1.heap[w.heap.size]? = some (.cells #[.string (str lb), .string (str s), .slice a n0 c] 49 (0, 0)) := by
  rw [h.block _ (by omega), Below.heap_alloc _ _ _ (by simp)]
  exact heap_alloc_new w _
 have h1 : w1.heap[w.heap.size + 1]? = some (.cells zero6 37 (0, 0)) := by
  rw [h.block _ (by omega)]
  have := heap_alloc_new (w.alloc (.cells #[.string (str lb), .string (str s), .slice a n0 c] 49)) (.cells zero6 37)
  rwa [show (w.alloc (.cells #[.string (str lb), .string (str s), .slice a n0 c] 49)).heap.size = w.heap.size + 1 by simp] at this
 exact ⟨(cell_blockT h0 1).trans rfl, (cell_blockT h0 2).trans rfl, h1⟩
theorem ro_wide {w w1 : World} {lb s : List UInt8} {a : Option Addr} {n0 c : Nat} (h : Below (rdW w lb s a n0 c).heap.size (rdW w lb s a n0 c) w1) : Below w.heap.size w w1 /\ w.heap.size + 2 <= w1.heap.size := by
 have hs := rdW_size w lb s a n0 c
 have := h.size
 exact ⟨(rdW_below w lb s a n0 c).trans (h.mono (by omega)), by omega⟩
theorem ItAt.below {w w' : World} {g o : Nat} {x : Itm} {va : Option Addr} {n vc : Nat} (h : ItAt w g o x va n vc) {B : Nat} (hb : Below B w w') (hg : g < B) : ItAt w' g o x va n vc :=
 ⟨(hb.cell (p := ⟨g, _, none⟩) hg).trans h.kind, (hb.cell (p := ⟨g, _, none⟩) hg).trans h.name, (hb.cell (p := ⟨g, _, none⟩) hg).trans h.op, (hb.cell (p := ⟨g, _, none⟩) hg).trans h.a, (hb.cell (p := ⟨g, _, none⟩) hg).trans h.b, (hb.cell (p := ⟨g, _, none⟩) hg).trans h.m, (hb.cell (p := ⟨g, _, none⟩) hg).trans h.form, (hb.cell (p := ⟨g, _, none⟩) hg).trans h.terms, (hb.cell (p := ⟨g, _, none⟩) hg).trans h.const, (hb.cell (p := ⟨g, _, none⟩) hg).trans h.n⟩
theorem ItemsLie.below {w w' : World} {vi : Value} {l : List Itm} (h : ItemsLie w vi l) (hb : Below w.heap.size w w') : ItemsLie w' vi l := by
 rcases h with h | ⟨q, c, hv, hq, hl⟩
 ·exact .inl h
 ·refine .inr ⟨q, c, hv, Nat.lt_of_lt_of_le hq hb.size, fun i x hi => ?_⟩
  obtain ⟨va, n, vc, h1, h2, h3⟩ := hl i x hi
  exact ⟨va, n, vc, h1.below hb hq, h2, h3.below hb (Nat.le_refl _)⟩
theorem cell_kept {w w' : World} {q : Nat} (h : w'.heap[q]? = w.heap[q]?) (j : Nat) : w'.cell? ⟨q, j, none⟩ = w.cell? ⟨q, j, none⟩ := by
 simp only [World.cell?, h]
theorem tmLies_res {w w' : World} {R : Nat} {va : Option Addr} {ts : List Tm} (h : TmLies w va ts) (hR : w.heap[R]? = some (.cells zero6 37 (0, 0))) (hg : w.grownBy w' (some R)) : TmLies w' va ts := by
 rcases h with h | ⟨g, o, ha, hlt, hl⟩
 ·exact .inl h
 ·cases ts with
  | nil => exact .inl rfl
  | cons t r =>
   have h0 := hl 0 t rfl
   have hne : g ≠ R := fun e => by
    subst e
    obtain ⟨k0, k1⟩ := h0
    rw [cell_blockT hR] at k0 k1
    have : o = 0 ∨ o = 1 ∨ o = 2 ∨ o = 3 ∨ o = 4 ∨ o = 5 ∨ 6 <= o := by omega
    rcases this with rfl | rfl | rfl | rfl | rfl | rfl | ho
    ·cases k0
    ·cases k0
    ·cases k1
    ·cases k0
    ·cases k0
    ·cases k0
    ·rw [Array.getElem?_eq_none (by simp; omega)] at k0; cases k0
   have hbk : w'.heap[g]? = w.heap[g]? := hg.block g hlt (by simp [hne])
   refine .inr ⟨g, o, ha, Nat.lt_of_lt_of_le hlt hg.size, fun i x hi => ?_⟩
   obtain ⟨k0, k1⟩ := hl i x hi
   exact ⟨(cell_kept hbk _).trans k0, (cell_kept hbk _).trans k1⟩
theorem items_res {w w' : World} {R : Nat} {vi : Value} {l : List Itm} (h : ItemsLie w vi l) (hR : w.heap[R]? = some (.cells zero6 37 (0, 0))) (hg : w.grownBy w' (some R)) : ItemsLie w' vi l := by
 rcases h with h | ⟨q, c, hv, hq, hl⟩
 ·exact .inl h
 ·cases l with
  | nil => exact .inr ⟨q, c, hv, Nat.lt_of_lt_of_le hq hg.size, fun i x hi => by simp at hi⟩
  | cons x0 r =>
   have hne : q ≠ R := fun e => by
    subst e
    obtain ⟨va, n, vc, h1, _⟩ := hl 0 x0 rfl
    have k1 := h1.name
    rw [cell_blockT hR] at k1
    cases k1
   have hbk : w'.heap[q]? = w.heap[q]? := hg.block q hq (by simp [hne])
   refine .inr ⟨q, c, hv, Nat.lt_of_lt_of_le hq hg.size, fun i x hi => ?_⟩
   obtain ⟨va, n, vc, h1, h2, h3⟩ := hl i x hi
   exact ⟨va, n, vc, ⟨(cell_kept hbk _).trans h1.kind, (cell_kept hbk _).trans h1.name, (cell_kept hbk _).trans h1.op, (cell_kept hbk _).trans h1.a, (cell_kept hbk _).trans h1.b, (cell_kept hbk _).trans h1.m, (cell_kept hbk _).trans h1.form, (cell_kept hbk _).trans h1.terms, (cell_kept hbk _).trans h1.const, (cell_kept hbk _).trans h1.n⟩, h2, tmLies_res h3 hR hg⟩
structure RStG (w : World) (t : Thg) (ai : Option Addr) (ni ci : Nat) (va : Option Addr) (n vc p : Nat) (wr : World) : Prop where
 bel : Below w.heap.size w wr
 res : wr.heap[w.heap.size + 1]? = some (.cells zero6 37 (0, 0))
 thing : wr.heap[p]? = some (.cells #[.int .i64 t.kind, .slice ai ni ci, .string (str t.name), .slice va n vc, .int .u32 t.e.const, .int .i64 t.sec] 37 (0, 0))
 items : ItemsLie wr (.slice ai ni ci) t.items
 terms : TmLies wr va t.e.terms
theorem RStG.below {w : World} {t : Thg} {ai : Option Addr} {ni ci : Nat} {va : Option Addr} {n vc p : Nat} {wr w' : World} (h : RStG w t ai ni ci va n vc p wr) (hb : Below wr.heap.size wr w') : RStG w t ai ni ci va n vc p w' :=
 ⟨h.bel.trans (hb.mono h.bel.size), by rw [hb.block _ (blk_lt h.res)]; exact h.res, by rw [hb.block _ (blk_lt h.thing)]; exact h.thing, h.items.below hb, h.terms.below hb (Nat.le_refl _)⟩
theorem lie_len {w : World} {ai : Option Addr} {ni ci : Nat} {l : List Itm} (h : ItemsLie w (.slice ai ni ci) l) : ni = l.length := by
 rcases h with ⟨rfl, h⟩ | ⟨q, c, hv, _⟩
 ·cases h; rfl
 ·injection hv
theorem lie_at {w : World} {ai : Option Addr} {ni ci : Nat} {l : List Itm} (h : ItemsLie w (.slice ai ni ci) l) {i : Nat} {x : Itm} (hi : l[i]? = some x) : ∃ q, ai = some ⟨q, 0, none⟩ /\ q < w.heap.size /\ ∃ va n vc, ItAt w q (i * 10) x va n vc := by
 rcases h with ⟨rfl, h⟩ | ⟨q, c, hv, hq, hl⟩
 ·simp at hi
 ·injection hv with hv
  obtain ⟨va, n, vc, h1, _⟩ := hl i x hi
  exact ⟨q, hv, hq, va, n, vc, h1⟩
theorem stands_take {l : List Itm} {i : Nat} {x : Itm} {sec : Int} (hi : l[i]? = some x) : ((l.take (i + 1)).all fun y => standsB y.kind sec) = (((l.take i).all fun y => standsB y.kind sec) && standsB x.kind sec) := by
 rw [List.take_add_one, hi]
 simp
theorem stands_bad {t : Thg} {i : Nat} {x : Itm} {sec : Int} (hi : t.items[i]? = some x) (hb : standsB x.kind sec = false) : standsT t sec = .error 21 := by
 unfold standsT
 rw [if_neg]
 intro h
 have := List.all_eq_true.1 h x (List.mem_of_getElem? hi)
 rw [hb] at this
 cases this
theorem stands_all {t : Thg} {i : Nat} {sec : Int} (hi : t.items.length <= i) (hb : ((t.items.take i).all fun y => standsB y.kind sec) = true) : standsT t sec = .ok t := by
 unfold standsT
 rw [List.take_of_length_le hi] at hb
 rw [if_pos hb]
set_option maxHeartbeats 1000000 in
theorem readLen_single (lb s : List UInt8) (hs0 : s ≠ []) (a : Option Addr) (c : Nat) (n0 : Nat) (hal : n0 <= 1100000) (sec : Int) (w : World) (least most : Int) (hbad : (n0 : Int) < least ∨ most < (n0 : Int)) (RB : World -> Nat -> Prop)
  (hro0 : ∀ w1, Below w.heap.size w w1 -> Calls Tryz.prog 42 #[.string (str s)] w1 fun e w2 => Below w1.heap.size w1 w2 /\ ∃ b, w1.heap.size <= b /\ e = .returned (.tuple #[.iface 119 (.pointer (some ⟨b, 0, none⟩)), .int .i64 least, .int .i64 most]) /\ (b < w2.heap.size /\ RB w2 b)) :
  Calls Tryz.prog 17 #[.agg #[.string (str lb), .string (str s), .slice a n0 c], .int .i64 sec] w fun e w' => Below w.heap.size w w' /\ ThOut w' (.error 20) e := by
 have hne : ((str s).toList == []) = false := by rw [str_toList]; exact beq_false_of_ne hs0
 have hnl : ∀ a w, (binOp .eql 89 (.iface 119 (.pointer (some a))) .nilIface).run Tryz.prog w = .ok (.bool false) w := nil_119
 have hro := Hid.intro (hro0 (rdW w lb s a n0 c) (rdW_below w lb s a n0 c))
 clear hro0
 by_cases hl : (n0 : Int) < least
 ·clear hbad
  go_enter Tryz.func17, Tryz.ntmps17
  go_wp2_with (go_at_call 42; (with_reducible refine (hro.out).mono ?_); rintro e w1 ⟨hb1, b, hb, rfl, hO⟩; have hs1 := hb1.size; replace hO := Hid.intro hO; obtain ⟨l1, l2, hr1⟩ := ro_facts hb1; obtain ⟨rc0, rc1, rc2, rc3, rc4, rc5⟩ := six_read hr1; have rf := fun j => frozen_of_row w1 (w.heap.size + 1) j _ 37 hr1; replace hr1 := Hid.intro hr1)
  all_goals first | omega | skip
  obtain ⟨hw1, hw2⟩ := ro_wide hb1
  obtain ⟨s1, s2⟩ := six_set hr1.out (.int .i64 0) (.slice none 0 0) (.string ⟨#[]⟩) (.slice none 0 0) (.int .u32 0) (.int .i64 0)
  have hB9 := (hw1).grown s2 (by omega) (fun j hj => by cases hj; omega)
  generalize ((((((w1.setCell ⟨w.heap.size + 1, 0, none⟩ (.int .i64 0)).setCell ⟨w.heap.size + 1, 1, none⟩ (.slice none 0 0)).setCell ⟨w.heap.size + 1, 2, none⟩ (.string ⟨#[]⟩)).setCell ⟨w.heap.size + 1, 3, none⟩ (.slice none 0 0)).setCell ⟨w.heap.size + 1, 4, none⟩ (.int .u32 0)).setCell ⟨w.heap.size + 1, 5, none⟩ (.int .i64 0)) = w9 at s1 s2 hB9 ⊢
  obtain ⟨k0, k1, k2, k3, k4, k5⟩ := thing_ret (w8 := w9) s1
  refine bodyPost_ret (by simp [results, Tryz.results17, go_sem, k0, k1, k2, k3, k4, k5]; try rfl) rfl ?_
  exact ⟨hB9, rfl⟩
 ·have hl2 : most < (n0 : Int) := by omega
  clear hbad
  go_enter Tryz.func17, Tryz.ntmps17
  go_wp2_with (go_at_call 42; (with_reducible refine (hro.out).mono ?_); rintro e w1 ⟨hb1, b, hb, rfl, hO⟩; have hs1 := hb1.size; replace hO := Hid.intro hO; obtain ⟨l1, l2, hr1⟩ := ro_facts hb1; obtain ⟨rc0, rc1, rc2, rc3, rc4, rc5⟩ := six_read hr1; have rf := fun j => frozen_of_row w1 (w.heap.size + 1) j _ 37 hr1; replace hr1 := Hid.intro hr1)
  all_goals first | omega | skip
  obtain ⟨hw1, hw2⟩ := ro_wide hb1
  obtain ⟨s1, s2⟩ := six_set hr1.out (.int .i64 0) (.slice none 0 0) (.string ⟨#[]⟩) (.slice none 0 0) (.int .u32 0) (.int .i64 0)
  have hB9 := (hw1).grown s2 (by omega) (fun j hj => by cases hj; omega)
  generalize ((((((w1.setCell ⟨w.heap.size + 1, 0, none⟩ (.int .i64 0)).setCell ⟨w.heap.size + 1, 1, none⟩ (.slice none 0 0)).setCell ⟨w.heap.size + 1, 2, none⟩ (.string ⟨#[]⟩)).setCell ⟨w.heap.size + 1, 3, none⟩ (.slice none 0 0)).setCell ⟨w.heap.size + 1, 4, none⟩ (.int .u32 0)).setCell ⟨w.heap.size + 1, 5, none⟩ (.int .i64 0)) = w9 at s1 s2 hB9 ⊢
  obtain ⟨k0, k1, k2, k3, k4, k5⟩ := thing_ret (w8 := w9) s1
  refine bodyPost_ret (by simp [results, Tryz.results17, go_sem, k0, k1, k2, k3, k4, k5]; try rfl) rfl ?_
  exact ⟨hB9, rfl⟩
set_option maxHeartbeats 2000000 in
theorem readG_single (lb s : List UInt8) (hs0 : s ≠ []) (a : Option Addr) (c : Nat) (n0 : Nat) (hal : n0 <= 1100000) (sec : Int) (w : World) (least most : Int) (hlo : ¬ (n0 : Int) < least) (hhi : ¬ most < (n0 : Int)) (RB : World -> Nat -> Prop) (RD : Thg -> World -> Nat -> Prop) (R : Except Int Thg)
  (hro0 : ∀ w1, Below w.heap.size w w1 -> Calls Tryz.prog 42 #[.string (str s)] w1 fun e w2 => Below w1.heap.size w1 w2 /\ ∃ b, w1.heap.size <= b /\ e = .returned (.tuple #[.iface 119 (.pointer (some ⟨b, 0, none⟩)), .int .i64 least, .int .i64 most]) /\ (b < w2.heap.size /\ RB w2 b))
  (hrd0 : ∀ w1 b, Below w.heap.size w w1 -> w.heap.size + 2 <= b -> b < w1.heap.size -> RB w1 b -> Calls Tryz.prog 119 #[.pointer (some ⟨b, 0, none⟩), .slice a n0 c] w1 fun e w2 => Below b w1 w2 /\ RdOut R RD e w2 b)
  (hsd0 : ∀ t w1 b, RD t w1 b -> Calls Tryz.prog 43 #[.iface 119 (.pointer (some ⟨b, 0, none⟩))] w1 fun e w2 => Below w1.heap.size w1 w2 /\ ∃ ai ni ci va n vc, e = .returned (thgV t.kind (.slice ai ni ci) t.name (.slice va n vc) t.e.const t.sec) /\ ItemsLie w2 (.slice ai ni ci) t.items /\ n = t.e.terms.length /\ TmLies w2 va t.e.terms)
  (hk : ∀ k, R = .error k -> k ≠ 0) (hmany : ∀ t, R = .ok t -> t.items.length <= 1100000) :
  Calls Tryz.prog 17 #[.agg #[.string (str lb), .string (str s), .slice a n0 c], .int .i64 sec] w fun e w' => Below w.heap.size w w' /\ ThOut w' (andStands R sec) e := by
 have hne : ((str s).toList == []) = false := by rw [str_toList]; exact beq_false_of_ne hs0
 have hnl : ∀ a w, (binOp .eql 89 (.iface 119 (.pointer (some a))) .nilIface).run Tryz.prog w = .ok (.bool false) w := nil_119
 have hro := Hid.intro (hro0 (rdW w lb s a n0 c) (rdW_below w lb s a n0 c))
 clear hro0
 cases R with
 | error k =>
  have hk0 : (k == 0) = false := by have := hk k rfl; simpa using this
  have hrd : Hid (∀ w1, Below (rdW w lb s a n0 c).heap.size (rdW w lb s a n0 c) w1 -> ∀ b, (rdW w lb s a n0 c).heap.size <= b -> (b < w1.heap.size /\ RB w1 b) -> Calls Tryz.prog 119 #[.pointer (some ⟨b, 0, none⟩), .slice a n0 c] w1 fun e w2 => e = .returned (.int .i64 k) /\ Below b w1 w2 /\ True) := fun w1 h1 b hb hO => by
   obtain ⟨hw1, hw2⟩ := ro_wide h1
   refine (hrd0 w1 b hw1 (by rw [rdW_size] at hb; exact hb) hO.1 hO.2).mono ?_
   rintro e w2 ⟨h1, h2⟩
   exact ⟨h2, h1, trivial⟩
  clear hrd0 hsd0 hk hmany
  rw [show andStands (.error k) sec = .error k from rfl]
  go_enter Tryz.func17, Tryz.ntmps17
  go_wp2_with (first | (go_at_call 42; (with_reducible refine (hro.out).mono ?_); rintro e w1 ⟨hb1, b, hb, rfl, hO⟩; have hs1 := hb1.size; replace hO := Hid.intro hO; obtain ⟨l1, l2, hr1⟩ := ro_facts hb1; obtain ⟨rc0, rc1, rc2, rc3, rc4, rc5⟩ := six_read hr1; have rf := fun j => frozen_of_row w1 (w.heap.size + 1) j _ 37 hr1; replace hr1 := Hid.intro hr1) | (go_at_call 119; (with_reducible refine (hrd.out w1 hb1 b hb hO.out).mono ?_); rintro e w2 ⟨rfl, hb2, hO2⟩; have hs2 := hb2.size; have hr2 : w2.heap[w.heap.size + 1]? = some (.cells zero6 37 (0, 0)) := (by rw [hb2.block _ (by rw [rdW_size] at hb; omega)]; exact hr1.out); obtain ⟨rd0, rd1, rd2, rd3, rd4, rd5⟩ := six_read hr2; have rg := fun j => frozen_of_row w2 (w.heap.size + 1) j _ 37 hr2; replace hr2 := Hid.intro hr2; replace hO2 := Hid.intro hO2))
  all_goals first | omega | skip
  obtain ⟨hw1, hw2⟩ := ro_wide hb1
  have hw3 : Below w.heap.size w w2 := hw1.trans (hb2.mono (by rw [rdW_size] at hb; omega))
  obtain ⟨s1, s2⟩ := six_set hr2.out (.int .i64 0) (.slice none 0 0) (.string ⟨#[]⟩) (.slice none 0 0) (.int .u32 0) (.int .i64 0)
  have hB9 := (hw3).grown s2 (by omega) (fun j hj => by cases hj; omega)
  generalize ((((((w2.setCell ⟨w.heap.size + 1, 0, none⟩ (.int .i64 0)).setCell ⟨w.heap.size + 1, 1, none⟩ (.slice none 0 0)).setCell ⟨w.heap.size + 1, 2, none⟩ (.string ⟨#[]⟩)).setCell ⟨w.heap.size + 1, 3, none⟩ (.slice none 0 0)).setCell ⟨w.heap.size + 1, 4, none⟩ (.int .u32 0)).setCell ⟨w.heap.size + 1, 5, none⟩ (.int .i64 0)) = w9 at s1 s2 hB9 ⊢
  obtain ⟨k0, k1, k2, k3, k4, k5⟩ := thing_ret (w8 := w9) s1
  refine bodyPost_ret (by simp [results, Tryz.results17, go_sem, k0, k1, k2, k3, k4, k5]; try rfl) rfl ?_
  exact ⟨hB9, rfl⟩
 | ok t =>
  have hrd : Hid (∀ w1, Below (rdW w lb s a n0 c).heap.size (rdW w lb s a n0 c) w1 -> ∀ b, (rdW w lb s a n0 c).heap.size <= b -> (b < w1.heap.size /\ RB w1 b) -> Calls Tryz.prog 119 #[.pointer (some ⟨b, 0, none⟩), .slice a n0 c] w1 fun e w2 => e = .returned (.int .i64 0) /\ Below b w1 w2 /\ RD t w2 b) := fun w1 h1 b hb hO => by
   obtain ⟨hw1, hw2⟩ := ro_wide h1
   refine (hrd0 w1 b hw1 (by rw [rdW_size] at hb; exact hb) hO.1 hO.2).mono ?_
   rintro e w2 ⟨h1, h2⟩
   exact ⟨h2.1, h1, h2.2⟩
  have hsd := Hid.intro hsd0
  have hmanyH := Hid.intro (hmany t rfl)
  clear hrd0 hsd0 hk hmany
  rw [show andStands (.ok t) sec = standsT t sec from rfl]
  go_enter Tryz.func17, Tryz.ntmps17
  go_upto_region 10 with (first | (go_at_call 42; (with_reducible refine (hro.out).mono ?_); rintro e w1 ⟨hb1, b, hb, rfl, hO⟩; have hs1 := hb1.size; replace hO := Hid.intro hO; obtain ⟨l1, l2, hr1⟩ := ro_facts hb1; obtain ⟨rc0, rc1, rc2, rc3, rc4, rc5⟩ := six_read hr1; have rf := fun j => frozen_of_row w1 (w.heap.size + 1) j _ 37 hr1; replace hr1 := Hid.intro hr1) | (go_at_call 119; (with_reducible refine (hrd.out w1 hb1 b hb hO.out).mono ?_); rintro e w2 ⟨rfl, hb2, hO2⟩; have hs2 := hb2.size; have hr2 : w2.heap[w.heap.size + 1]? = some (.cells zero6 37 (0, 0)) := (by rw [hb2.block _ (by rw [rdW_size] at hb; omega)]; exact hr1.out); obtain ⟨rd0, rd1, rd2, rd3, rd4, rd5⟩ := six_read hr2; have rg := fun j => frozen_of_row w2 (w.heap.size + 1) j _ 37 hr2; replace hr2 := Hid.intro hr2; replace hO2 := Hid.intro hO2) | (go_at_call 43; (with_reducible refine (hsd.out t w2 b hO2.out).mono ?_); rintro e w3 ⟨hb3, ai, ni, ci, va, n, vc, rfl, hit, hn, htm⟩; replace hit := Hid.intro hit; replace htm := Hid.intro htm; replace hn := Hid.intro hn))
  all_goals first | omega | skip
  obtain ⟨hw1, hw2⟩ := ro_wide hb1
  have hbb : w.heap.size + 2 <= b := by rw [rdW_size] at hb; exact hb
  have hOlt := hO.out.1
  have hs3 := hb3.size
  have hB3 : Below w.heap.size w w3 := (hw1.trans (hb2.mono (by omega))).trans (hb3.mono (by omega))
  have hS : RStG w t ai ni ci va n vc w3.heap.size (w3.alloc (.cells #[.int .i64 t.kind, .slice ai ni ci, .string (str t.name), .slice va n vc, .int .u32 t.e.const, .int .i64 t.sec] 37)) :=
   ⟨hB3.alloc hB3.size _, by rw [Below.heap_alloc _ _ _ (by omega), hb3.block _ (by omega)]; exact hr2.out, heap_alloc_new w3 _, hit.out.below (below_alloc w3 _), htm.out.below (below_alloc w3 _) (Nat.le_refl _)⟩
  generalize hp : w3.heap.size = p at hS ⊢
  generalize (w3.alloc (.cells #[.int .i64 t.kind, .slice ai ni ci, .string (str t.name), .slice va n vc, .int .u32 t.e.const, .int .i64 t.sec] 37)) = w4 at hS ⊢
  have hni := Hid.intro (lie_len hit.out)
  have hnim : ni <= 1100000 := by rw [hni.out]; exact hmanyH.out
  clear rd0 rd1 rd2 rd3 rd4 rd5 rg rc0 rc1 rc2 rc3 rc4 rc5 rf l1 l2 hr1 hr2 hb3 hb2 hb1 hO hO2 hro hrd hsd hp hB3 hit htm
  replace hS := Hid.intro hS
  have t1 := (cell_blockT hS.out.thing 1).trans rfl
  go_wp2
  all_goals first | omega | skip
  clear t1
  go_loopw [54] (fun v54 wr => ∃ i : Nat, i <= ni /\ v54 = .int .i64 (i : Int) /\ Hid (((t.items.take i).all fun y => standsB y.kind sec) = true) /\ Hid (RStG w t ai ni ci va n vc p wr)) (fun v54 wr => ni - (intOf v54).toNat)
  case atStart => exact ⟨0, by omega, rfl, (by show _ = _; simp), hS⟩
  case round =>
   clear hS
   obtain ⟨i, hi, rfl, hall, hS⟩ := hrel
   by_cases hlt : i < ni
   ·obtain ⟨x, hx⟩ : ∃ x, t.items[i]? = some x := ⟨t.items[i]'(by rw [<- hni.out]; exact hlt), List.getElem?_eq_getElem _⟩
    obtain ⟨q, rfl, hq, xa, xn, xc, hI⟩ := lie_at hS.out.items hx
    obtain ⟨c0, c1, c2, c3, c4, c5, c6, c7, c8, c9⟩ := hI
    have hlt2 : (i : Int) < (ni : Int) := by omega
    have hst := Hid.intro (fun w1 => stands_any x.kind sec w1)
    have hal2 := Hid.intro (fun o => hS.out.below (below_alloc wr o))
    have r0 := fun o => (cell_blockT (hal2.out o).res 0).trans rfl
    have r1 := fun o => (cell_blockT (hal2.out o).res 1).trans rfl
    have r2 := fun o => (cell_blockT (hal2.out o).res 2).trans rfl
    have r3 := fun o => (cell_blockT (hal2.out o).res 3).trans rfl
    have r4 := fun o => (cell_blockT (hal2.out o).res 4).trans rfl
    have r5 := fun o => (cell_blockT (hal2.out o).res 5).trans rfl
    have rf := fun o j => frozen_of_row (wr.alloc o) (w.heap.size + 1) j _ 37 (hal2.out o).res
    cases hsb : standsB x.kind sec
    ·rw [hsb] at hst
     have hbadH := Hid.intro (stands_bad hx hsb)
     clear hx hsb
     go_wp2_with (go_at_call 23; (with_reducible refine (hst.out _).mono ?_); rintro e w5 ⟨rfl, rfl⟩)
     all_goals first | omega | skip
     have hal3 := hal2.out (.cells (itmCells x (.slice xa xn xc)) 33)
     have hbs := hal3.bel.size
     obtain ⟨s1, s2⟩ := six_set hal3.res (.int .i64 0) (.slice none 0 0) (.string ⟨#[]⟩) (.slice none 0 0) (.int .u32 0) (.int .i64 0)
     have hB9 := (hal3.bel).grown s2 (by omega) (fun j hj => by cases hj; omega)
     generalize (((((((wr.alloc (.cells (itmCells x (.slice xa xn xc)) 33)).setCell ⟨w.heap.size + 1, 0, none⟩ (.int .i64 0)).setCell ⟨w.heap.size + 1, 1, none⟩ (.slice none 0 0)).setCell ⟨w.heap.size + 1, 2, none⟩ (.string ⟨#[]⟩)).setCell ⟨w.heap.size + 1, 3, none⟩ (.slice none 0 0)).setCell ⟨w.heap.size + 1, 4, none⟩ (.int .u32 0)).setCell ⟨w.heap.size + 1, 5, none⟩ (.int .i64 0)) = w9 at s1 s2 hB9 ⊢
     obtain ⟨k0, k1, k2, k3, k4, k5⟩ := thing_ret (w8 := w9) s1
     refine bodyPost_ret (by simp [results, Tryz.results17, go_sem, k0, k1, k2, k3, k4, k5]; try rfl) rfl ?_
     rw [hbadH.out]
     exact ⟨hB9, rfl⟩
    ·rw [hsb] at hst
     have hnext : Hid (((t.items.take (i + 1)).all fun y => standsB y.kind sec) = true) := (by show _ = _; rw [stands_take hx, hall.out, hsb]; rfl)
     clear hx hsb
     go_wp2_with (go_at_call 23; (with_reducible refine (hst.out _).mono ?_); rintro e w5 ⟨rfl, rfl⟩)
     all_goals first | omega | skip
     go_roundw
     case rel => exact ⟨i + 1, by omega, by go_num, hnext, Hid.intro (hal2.out _)⟩
     case measure => simp [intOf]; omega
   ·have hin : i = ni := by omega
    have hokH : Hid (standsT t sec = .ok t) := stands_all (by rw [<- hni.out]; omega) hall.out
    subst hin
    have hlt3 : ¬ ((i : Int) < (i : Int)) := by omega
    obtain ⟨t0, t1, t2, t3, t4, t5⟩ := six_read hS.out.thing
    obtain ⟨r0, r1, r2, r3, r4, r5⟩ := six_read hS.out.res
    have rf := fun j => frozen_of_row wr (w.heap.size + 1) j _ 37 hS.out.res
    go_wp2
    all_goals first | omega | skip
    obtain ⟨s1, s2⟩ := six_set hS.out.res (.int .i64 t.kind) (.slice ai i ci) (.string (str t.name)) (.slice va n vc) (.int .u32 t.e.const) (.int .i64 t.sec)
    have hbs := hS.out.bel.size
    have hB9 := (hS.out.bel).grown s2 (by omega) (fun j hj => by cases hj; omega)
    have hit9 := items_res hS.out.items hS.out.res s2
    have htm9 := tmLies_res hS.out.terms hS.out.res s2
    generalize ((((((wr.setCell ⟨w.heap.size + 1, 0, none⟩ (.int .i64 t.kind)).setCell ⟨w.heap.size + 1, 1, none⟩ (.slice ai i ci)).setCell ⟨w.heap.size + 1, 2, none⟩ (.string (str t.name))).setCell ⟨w.heap.size + 1, 3, none⟩ (.slice va n vc)).setCell ⟨w.heap.size + 1, 4, none⟩ (.int .u32 t.e.const)).setCell ⟨w.heap.size + 1, 5, none⟩ (.int .i64 t.sec)) = w9 at s1 s2 hB9 hit9 htm9 ⊢
    obtain ⟨k0, k1, k2, k3, k4, k5⟩ := thing_ret (w8 := w9) s1
    refine bodyPost_ret (by simp [results, Tryz.results17, go_sem, k0, k1, k2, k3, k4, k5]; try rfl) rfl ?_
    rw [hokH.out]
    exact ⟨hB9, .slice ai i ci, va, n, vc, rfl, hit9, hn.out, htm9⟩
end Go.Proofs.YtlkmegchaeokgaaGreatDoor
/- item's said of the directives' readers; the readers of one item, of a name, of a section. -/
namespace Go.Proofs.YtlkmegchaeokgaaGreatDoor
open Go.ChangeShapes Go.WideShapes Go.ChangeAt Go.RowKit
set_option linter.unusedVariables false
set_option maxRecDepth 100000
theorem said_single (b : Nat) (x : Itm) (va : Option Addr) (n vc : Nat) (w : World) (h : w.heap[b]? = some (.cells (itmCells x (.slice va n vc)) 121 (0, 0))) :
  Calls Tryz.prog 43 #[.iface 119 (.pointer (some ⟨b, 0, none⟩))] w fun e w' => Below w.heap.size w w' /\ ∃ q, w.heap.size < q /\ e = .returned (thgV 1 (.slice (some ⟨q, 0, none⟩) 1 1) [] (.slice none 0 0) 0 0) /\ w'.heap[q]? = some (.cells (itmCells x (.slice va n vc)) 33 (0, 0)) := by
 have hc := fun j => cell_blockT h j
 have c0 := (hc 0).trans rfl
 have c1 := (hc 1).trans rfl
 have c2 := (hc 2).trans rfl
 have c3 := (hc 3).trans rfl
 have c4 := (hc 4).trans rfl
 have c5 := (hc 5).trans rfl
 have c6 := (hc 6).trans rfl
 have c7 := (hc 7).trans rfl
 have c8 := (hc 8).trans rfl
 have c9 := (hc 9).trans rfl
 have hlt := blk_lt h
 clear hc h
 have hta0 := fun a w => assert_119_141 a w
 have hta := fun a w => assert_119 a w
 go_enter Tryz.func43, Tryz.ntmps43
 go_wp2
 all_goals first | omega | skip
 have hB : Below w.heap.size w ((w.alloc (.cells #[.int .i64 1, .slice (some ⟨w.heap.size + 1, 0, none⟩) 1 1, .string ⟨#[]⟩, .slice none 0 0, .int .u32 0, .int .i64 0] 37)).alloc (.cells (itmCells x (.slice va n vc)) 33)) := (below_alloc w _).alloc (by simp) _
 have hs1 : (w.alloc (.cells #[.int .i64 1, .slice (some ⟨w.heap.size + 1, 0, none⟩) 1 1, .string ⟨#[]⟩, .slice none 0 0, .int .u32 0, .int .i64 0] 37)).heap.size = w.heap.size + 1 := by simp
 have hq := heap_alloc_new (w.alloc (.cells #[.int .i64 1, .slice (some ⟨w.heap.size + 1, 0, none⟩) 1 1, .string ⟨#[]⟩, .slice none 0 0, .int .u32 0, .int .i64 0] 37)) (.cells (itmCells x (.slice va n vc)) 33)
 rw [hs1] at hq
 have hr : ((w.alloc (.cells #[.int .i64 1, .slice (some ⟨w.heap.size + 1, 0, none⟩) 1 1, .string ⟨#[]⟩, .slice none 0 0, .int .u32 0, .int .i64 0] 37)).alloc (.cells (itmCells x (.slice va n vc)) 33)).heap[w.heap.size]? = some (.cells #[.int .i64 1, .slice (some ⟨w.heap.size + 1, 0, none⟩) 1 1, .string ⟨#[]⟩, .slice none 0 0, .int .u32 0, .int .i64 0] 37 (0, 0)) := by
  rw [Below.heap_alloc _ _ _ (by omega)]
  exact heap_alloc_new w _
 generalize ((w.alloc (.cells #[.int .i64 1, .slice (some ⟨w.heap.size + 1, 0, none⟩) 1 1, .string ⟨#[]⟩, .slice none 0 0, .int .u32 0, .int .i64 0] 37)).alloc (.cells (itmCells x (.slice va n vc)) 33)) = w9 at hB hq hr ⊢
 have k0 := (cell_blockT hr 0).trans rfl
 have k1 := (cell_blockT hr 1).trans rfl
 have k2 := (cell_blockT hr 2).trans rfl
 have k3 := (cell_blockT hr 3).trans rfl
 have k4 := (cell_blockT hr 4).trans rfl
 have k5 := (cell_blockT hr 5).trans rfl
 refine bodyPost_ret (by simp [results, Tryz.results43, go_sem, k0, k1, k2, k3, k4, k5]; try rfl) rfl ?_
 exact ⟨hB, w.heap.size + 1, by omega, rfl, hq⟩
theorem said_end {w : World} {v0 v1 v2 v3 v4 v5 : Value} : (w.alloc (.cells #[v0, v1, v2, v3, v4, v5] 37)).cell? ⟨w.heap.size, 0, none⟩ = some v0 /\ (w.alloc (.cells #[v0, v1, v2, v3, v4, v5] 37)).cell? ⟨w.heap.size, 1, none⟩ = some v1 /\ (w.alloc (.cells #[v0, v1, v2, v3, v4, v5] 37)).cell? ⟨w.heap.size, 2, none⟩ = some v2 /\ (w.alloc (.cells #[v0, v1, v2, v3, v4, v5] 37)).cell? ⟨w.heap.size, 3, none⟩ = some v3 /\ (w.alloc (.cells #[v0, v1, v2, v3, v4, v5] 37)).cell? ⟨w.heap.size, 4, none⟩ = some v4 /\ (w.alloc (.cells #[v0, v1, v2, v3, v4, v5] 37)).cell? ⟨w.heap.size, 5, none⟩ = some v5 := by
 have h := heap_alloc_new w (.cells #[v0, v1, v2, v3, v4, v5] 37)
 exact ⟨(cell_blockT h 0).trans rfl, (cell_blockT h 1).trans rfl, (cell_blockT h 2).trans rfl, (cell_blockT h 3).trans rfl, (cell_blockT h 4).trans rfl, (cell_blockT h 5).trans rfl⟩
theorem said_several (b : Nat) (k : Int) (a : Option Addr) (n c : Nat) (w : World) (h : w.heap[b]? = some (.cells #[.int .i64 k, .slice a n c] 124 (0, 0))) :
  Calls Tryz.prog 43 #[.iface 122 (.pointer (some ⟨b, 0, none⟩))] w fun e w' => Below w.heap.size w w' /\ e = .returned (thgV 2 (.slice a n c) [] (.slice none 0 0) 0 0) := by
 have c0 := (cell_blockT h 0).trans rfl
 have c1 := (cell_blockT h 1).trans rfl
 have hlt := blk_lt h
 clear h
 have hta0 := fun a w => assert_122_141 a w
 have hta1 := fun a w => assert_122_119 a w
 have hta := fun a w => assert_122 a w
 go_enter Tryz.func43, Tryz.ntmps43
 go_wp2
 all_goals first | omega | skip
 have hB := below_alloc w (.cells #[.int .i64 2, .slice a n c, .string ⟨#[]⟩, .slice none 0 0, .int .u32 0, .int .i64 0] 37)
 obtain ⟨k0, k1, k2, k3, k4, k5⟩ := said_end (w := w) (v0 := .int .i64 2) (v1 := .slice a n c) (v2 := .string ⟨#[]⟩) (v3 := .slice none 0 0) (v4 := .int .u32 0) (v5 := .int .i64 0)
 generalize (w.alloc (.cells #[.int .i64 2, .slice a n c, .string ⟨#[]⟩, .slice none 0 0, .int .u32 0, .int .i64 0] 37)) = w9 at hB k0 k1 k2 k3 k4 k5 ⊢
 refine bodyPost_ret (by simp [results, Tryz.results43, go_sem, k0, k1, k2, k3, k4, k5]; try rfl) rfl ?_
 exact ⟨hB, rfl⟩
theorem said_export (b : Nat) (s : List UInt8) (w : World) (h : w.heap[b]? = some (.cells #[.string (str s)] 130 (0, 0))) :
  Calls Tryz.prog 43 #[.iface 128 (.pointer (some ⟨b, 0, none⟩))] w fun e w' => Below w.heap.size w w' /\ e = .returned (thgV 4 (.slice none 0 0) s (.slice none 0 0) 0 0) := by
 have c0 := (cell_blockT h 0).trans rfl
 have hlt := blk_lt h
 clear h
 have hta0 := fun a w => assert_128_141 a w
 have hta1 := fun a w => assert_128_119 a w
 have hta2 := fun a w => assert_128_122 a w
 have hta3 := fun a w => assert_128_125 a w
 have hta := fun a w => assert_128 a w
 go_enter Tryz.func43, Tryz.ntmps43
 go_wp2
 all_goals first | omega | skip
 have hB := below_alloc w (.cells #[.int .i64 4, .slice none 0 0, .string (str s), .slice none 0 0, .int .u32 0, .int .i64 0] 37)
 obtain ⟨k0, k1, k2, k3, k4, k5⟩ := said_end (w := w) (v0 := .int .i64 4) (v1 := .slice none 0 0) (v2 := .string (str s)) (v3 := .slice none 0 0) (v4 := .int .u32 0) (v5 := .int .i64 0)
 generalize (w.alloc (.cells #[.int .i64 4, .slice none 0 0, .string (str s), .slice none 0 0, .int .u32 0, .int .i64 0] 37)) = w9 at hB k0 k1 k2 k3 k4 k5 ⊢
 refine bodyPost_ret (by simp [results, Tryz.results43, go_sem, k0, k1, k2, k3, k4, k5]; try rfl) rfl ?_
 exact ⟨hB, rfl⟩
theorem said_segment (b : Nat) (sec : Int) (w : World) (h : w.heap[b]? = some (.cells #[.int .i64 sec] 133 (0, 0))) :
  Calls Tryz.prog 43 #[.iface 131 (.pointer (some ⟨b, 0, none⟩))] w fun e w' => Below w.heap.size w w' /\ e = .returned (thgV 5 (.slice none 0 0) [] (.slice none 0 0) 0 sec) := by
 have c0 := (cell_blockT h 0).trans rfl
 have hlt := blk_lt h
 clear h
 have hta0 := fun a w => assert_131_141 a w
 have hta1 := fun a w => assert_131_119 a w
 have hta2 := fun a w => assert_131_122 a w
 have hta3 := fun a w => assert_131_125 a w
 have hta4 := fun a w => assert_131_128 a w
 have hta := fun a w => assert_131 a w
 go_enter Tryz.func43, Tryz.ntmps43
 go_wp2
 all_goals first | omega | skip
 have hB := below_alloc w (.cells #[.int .i64 5, .slice none 0 0, .string ⟨#[]⟩, .slice none 0 0, .int .u32 0, .int .i64 sec] 37)
 obtain ⟨k0, k1, k2, k3, k4, k5⟩ := said_end (w := w) (v0 := .int .i64 5) (v1 := .slice none 0 0) (v2 := .string ⟨#[]⟩) (v3 := .slice none 0 0) (v4 := .int .u32 0) (v5 := .int .i64 sec)
 generalize (w.alloc (.cells #[.int .i64 5, .slice none 0 0, .string ⟨#[]⟩, .slice none 0 0, .int .u32 0, .int .i64 sec] 37)) = w9 at hB k0 k1 k2 k3 k4 k5 ⊢
 refine bodyPost_ret (by simp [results, Tryz.results43, go_sem, k0, k1, k2, k3, k4, k5]; try rfl) rfl ?_
 exact ⟨hB, rfl⟩
theorem said_equation (b : Nat) (s : List UInt8) (a : Option Addr) (n c : Nat) (k : Int) (w : World) (h : w.heap[b]? = some (.cells #[.string (str s), .slice a n c, .int .u32 k] 127 (0, 0))) :
  Calls Tryz.prog 43 #[.iface 125 (.pointer (some ⟨b, 0, none⟩))] w fun e w' => Below w.heap.size w w' /\ e = .returned (thgV 3 (.slice none 0 0) s (.slice a n c) k 0) := by
 have c0 := (cell_blockT h 0).trans rfl
 have c1 := (cell_blockT h 1).trans rfl
 have c2 := (cell_blockT h 2).trans rfl
 have hlt := blk_lt h
 clear h
 have hta0 := fun a w => assert_125_141 a w
 have hta1 := fun a w => assert_125_119 a w
 have hta2 := fun a w => assert_125_122 a w
 have hta := fun a w => assert_125 a w
 have hne : ¬ b = w.heap.size := by omega
 have hne2 : ¬ w.heap.size = b := by omega
 go_enter Tryz.func43, Tryz.ntmps43
 go_wp2
 all_goals first | omega | skip
 go_region
 go_wp2
 all_goals first | omega | skip
 have hB := below_alloc w (.cells #[.int .i64 3, .slice none 0 0, .string (str s), .slice a n c, .int .u32 k, .int .i64 0] 37)
 obtain ⟨k0, k1, k2, k3, k4, k5⟩ := said_end (w := w) (v0 := .int .i64 3) (v1 := .slice none 0 0) (v2 := .string (str s)) (v3 := .slice a n c) (v4 := .int .u32 k) (v5 := .int .i64 0)
 generalize (w.alloc (.cells #[.int .i64 3, .slice none 0 0, .string (str s), .slice a n c, .int .u32 k, .int .i64 0] 37)) = w9 at hB k0 k1 k2 k3 k4 k5 ⊢
 refine bodyPost_ret (by simp [results, Tryz.results43, go_sem, k0, k1, k2, k3, k4, k5]; try rfl) rfl ?_
 exact ⟨hB.drew, rfl⟩
end Go.Proofs.YtlkmegchaeokgaaGreatDoor
/- item's readers of one item, of an equation, of a global, of a section. -/
namespace Go.Proofs.YtlkmegchaeokgaaGreatDoor
open Go.ChangeShapes Go.WideShapes Go.ChangeAt Go.RowKit
set_option linter.unusedVariables false
set_option maxRecDepth 100000
theorem args_at1 {B : Nat} {w : World} {a : Option Addr} {x0 : List Tok} {r : List (List Tok)} (h : ArgsIn B w a (x0 :: r)) : ∃ G a' c', a = some ⟨G, 0, none⟩ /\ G < B /\ w.cell? ⟨G, 0, none⟩ = some (.slice a' x0.length c') /\ Toks w a' c' x0 /\ ∀ y, a' = some y -> y.block < B := h.at (i := 0) rfl
def SgOut (b : Nat) (R : Except Int Itm) (e : Ending) (w' : World) : Prop := match R with | .error k => e = .returned (.int .i64 k) | .ok x => e = .returned (.int .i64 0) /\ x.e = linE /\ w'.heap[b]? = some (.cells (itmCells x (.slice none 0 0)) 121 (0, 0))
def ExOut (b : Nat) (R : Except Int (List UInt8)) (e : Ending) (w' : World) : Prop := match R with | .error k => e = .returned (.int .i64 k) | .ok s => e = .returned (.int .i64 0) /\ w'.heap[b]? = some (.cells #[.string (str s)] 130 (0, 0))
def SeOut (b : Nat) (R : Except Int Thg) (e : Ending) (w' : World) : Prop := match R with | .error k => e = .returned (.int .i64 k) | .ok t => e = .returned (.int .i64 0) /\ t = ⟨5, [], [], linE, t.sec⟩ /\ w'.heap[b]? = some (.cells #[.int .i64 t.sec] 133 (0, 0))
def EqOut (b : Nat) (R : Except Int Thg) (e : Ending) (w' : World) : Prop := match R with | .error k => e = .returned (.int .i64 k) | .ok t => e = .returned (.int .i64 0) /\ (∃ s y, t = ⟨3, [], s, y, 0⟩ /\ ∃ va n vc, w'.heap[b]? = some (.cells #[.string (str s), .slice va n vc, .int .u32 y.const] 127 (0, 0)) /\ w'.ownsRow (b + 1) 61 2 (.slice va n vc) y.terms.length (rowT y.terms))
def NumW (kind : Int) (R : Except Int Itm) (N W : Int) : Prop := match R with | .error k => W = k | .ok x => W = 0 /\ { itmE with kind := kind, n := N } = x
def NamW (R : Except Int (List UInt8)) (N : List UInt8) (W : Int) : Prop := match R with | .error k => W = k | .ok s => N = s /\ W = 0
def LinW (R : Except Int Lin) (W : Int) : Prop := match R with | .error k => W = k | .ok _ => W = 0
def EquR (s : List UInt8) (R : Except Int Lin) : Except Int Thg := match R with | .error k => .error k | .ok y => .ok ⟨3, [], s, y, 0⟩
theorem num_w (kind : Int) (hk : kind ≠ 6) (arg : List Tok) : ∃ N W, numV (numF kind arg) = .tuple #[.int .i64 N, .int .i64 W] /\ NumW kind (itOf kind arg) N W := by
 unfold itOf
 rw [if_neg hk]
 cases numF kind arg with
 | error k => exact ⟨0, k, rfl, rfl⟩
 | ok n => exact ⟨n, 0, rfl, rfl, rfl⟩
theorem nam_w (R : Except Int (List UInt8)) : ∃ N W, nameVI R = .tuple #[.string (str N), .int .i64 W] /\ NamW R N W := by
 cases R with
 | error k => exact ⟨[], k, rfl, rfl⟩
 | ok n => exact ⟨n, 0, rfl, rfl, rfl⟩
theorem singRead_none (b : Nat) (kind : Int) (a : Option Addr) (c : Nat) (w : World) (h : w.heap[b]? = some (.cells (itmCells { itmE with kind := kind } (.slice none 0 0)) 121 (0, 0))) :
  Calls Tryz.prog 119 #[.pointer (some ⟨b, 0, none⟩), .slice a 0 c] w fun e w' => e = .returned (.int .i64 0) /\ w' = w := by
 clear h
 go_enter Tryz.func119, Tryz.ntmps119
 go_wp2
 go_loopw [4, 9] (fun v4 v9 wr => v4 = .int .i64 0 /\ v9 = .int .i64 0 /\ wr = w) (fun v4 v9 wr => 0)
 case atStart => exact ⟨rfl, rfl, rfl⟩
 case round =>
  obtain ⟨rfl, rfl, rfl⟩ := hrel
  go_wp2
  all_goals first | omega | skip
  go_ret
  exact ⟨rfl, rfl⟩
theorem sing_set {w w1 : World} {b : Nat} {kind : Int} (h : w.heap[b]? = some (.cells (itmCells { itmE with kind := kind } (.slice none 0 0)) 121 (0, 0))) (hb : Below w.heap.size w w1) (n : Int) :
  (w1.setCell ⟨b, 9, none⟩ (.int .i64 n)).heap[b]? = some (.cells (itmCells { itmE with kind := kind, n := n } (.slice none 0 0)) 121 (0, 0)) /\ Below b w (w1.setCell ⟨b, 9, none⟩ (.int .i64 n)) := by
 have hlt := blk_lt h
 have h1 : w1.heap[b]? = some (.cells (itmCells { itmE with kind := kind } (.slice none 0 0)) 121 (0, 0)) := by rw [hb.block b hlt]; exact h
 obtain ⟨s1, s2⟩ := row_set h1 9 (.int .i64 n)
 have := hb.size
 exact ⟨s1, (hb.mono (by omega)).grown s2 (by omega) (fun j hj => by cases hj; exact Nat.le_refl _)⟩
set_option maxHeartbeats 1000000 in
theorem singRead_one (b : Nat) (kind : Int) (hk : kind ≠ 6) (a : Option Addr) (c : Nat) (arg : List Tok) (w : World) (hA : ArgsIn b w a [arg]) (h : w.heap[b]? = some (.cells (itmCells { itmE with kind := kind } (.slice none 0 0)) 121 (0, 0))) :
  Calls Tryz.prog 119 #[.pointer (some ⟨b, 0, none⟩), .slice a 1 c] w fun e w' => Below b w w' /\ SgOut b (itOf kind arg) e w' := by
 obtain ⟨G, a', c', rfl, hG, hcell, hT, _⟩ := args_at1 hA
 have hnum := numberOf_any kind a' c' arg w hT
 obtain ⟨N, W, hN, hNR⟩ := num_w kind hk arg
 rw [hN] at hnum
 clear hN hT hA
 generalize arg.length = ln at hnum hcell
 generalize itOf kind arg = R at hNR ⊢
 have c0 := (cell_blockT h 0).trans rfl
 have hlt := blk_lt h
 have hHH := Hid.intro h
 clear h
 replace hnum := Hid.intro hnum
 replace hNR := Hid.intro hNR
 go_enter Tryz.func119, Tryz.ntmps119
 go_wp2
 go_loopw [4, 9] (fun v4 v9 wr => (v4 = .int .i64 0 /\ v9 = .int .i64 0 /\ wr = w) ∨ (v4 = .int .i64 W /\ v9 = .int .i64 1 /\ ∃ w1, Below w.heap.size w w1 /\ wr = w1.setCell ⟨b, 9, none⟩ (.int .i64 N))) (fun v4 v9 wr => 1 - (intOf v9).toNat)
 case atStart => exact .inl ⟨rfl, rfl, rfl⟩
 case round =>
  rcases hrel with ⟨rfl, rfl, rfl⟩ | ⟨rfl, rfl, w1, hb1, rfl⟩
  ·go_wp2_with (go_at_call 120; (with_reducible refine (hnum.out).mono ?_); rintro e w1 ⟨rfl, hb1⟩; have hh1 := (show w1.heap[b]? = some (.cells (itmCells { itmE with kind := kind } (.slice none 0 0)) 121 (0, 0)) from by rw [hb1.block b hlt]; exact hHH.out); have z9 := (cell_blockT hh1 9).trans rfl; have f9 := frozen_of_row w1 b 9 _ 121 hh1; replace hh1 := Hid.intro hh1)
   all_goals first | omega | skip
   go_roundw
   case rel => exact .inr ⟨rfl, by go_num, w1, hb1, rfl⟩
   case measure => simp [intOf]
  ·go_wp2
   all_goals first | omega | skip
   go_ret
   obtain ⟨s1, s2⟩ := sing_set hHH.out hb1 N
   refine ⟨s2, ?_⟩
   cases R with
   | error k => obtain rfl : W = k := hNR.out; rfl
   | ok x => obtain ⟨hW0, hx⟩ : W = 0 /\ { itmE with kind := kind, n := N } = x := hNR.out; subst hW0; subst hx; exact ⟨rfl, rfl, s1⟩
theorem singRead_any (b : Nat) (kind : Int) (hk : kind ≠ 6) (a : Option Addr) (c : Nat) (args : List (List Tok)) (hl : args.length <= 1) (w : World) (hA : ArgsIn b w a args) (h : w.heap[b]? = some (.cells (itmCells { itmE with kind := kind } (.slice none 0 0)) 121 (0, 0))) :
  Calls Tryz.prog 119 #[.pointer (some ⟨b, 0, none⟩), .slice a args.length c] w fun e w' => Below b w w' /\ SgOut b (singF kind args) e w' := by
 match args, hl, hA with
 | [], _, hA =>
  refine (singRead_none b kind a c w h).mono ?_
  rintro e w' ⟨rfl, rfl⟩
  exact ⟨Below.refl _ _, rfl, rfl, h⟩
 | [arg], _, hA => exact singRead_one b kind hk a c arg w hA h
theorem exportRead_any (b : Nat) (a : Option Addr) (c : Nat) (x0 : List Tok) (w : World) (hA : ArgsIn b w a [x0]) (h : w.heap[b]? = some (.cells #[.string (str [])] 130 (0, 0))) :
  Calls Tryz.prog 163 #[.pointer (some ⟨b, 0, none⟩), .slice a 1 c] w fun e w' => Below b w w' /\ ExOut b (nameF x0) e w' := by
 obtain ⟨G, a', c', rfl, hG, hcell, hT, _⟩ := args_at1 hA
 have hnm := name_any a' c' x0 w hT.lies hT.short
 clear hT hA
 generalize x0.length = ln at hnm hcell
 generalize nameF x0 = R at hnm ⊢
 have hlt := blk_lt h
 have hHH := Hid.intro h
 clear h
 obtain ⟨N, W, hN, hNR⟩ := nam_w R
 rw [hN] at hnm
 replace hnm := Hid.intro hnm
 replace hNR := Hid.intro hNR
 clear hN
 go_enter Tryz.func163, Tryz.ntmps163
 go_wp2_with (go_at_call 161; (with_reducible refine (hnm.out).mono ?_); rintro e w1 ⟨rfl, hb1⟩; have hh1 := (show w1.heap[b]? = some (.cells #[.string (str [])] 130 (0, 0)) from by rw [hb1.block b hlt]; exact hHH.out); have z0 := (cell_blockT hh1 0).trans rfl; have f0 := frozen_of_row w1 b 0 _ 130 hh1; replace hh1 := Hid.intro hh1)
 all_goals first | omega | skip
 go_ret
 obtain ⟨s1, s2⟩ := row_set hh1.out 0 (.string (str N))
 have := hb1.size
 refine ⟨(hb1.mono (by omega)).grown s2 (by omega) (fun j hj => by cases hj; exact Nat.le_refl _), ?_⟩
 cases R with
 | error k => obtain rfl : W = k := hNR.out; rfl
 | ok n => obtain ⟨rfl, rfl⟩ : N = n /\ W = 0 := hNR.out; exact ⟨rfl, s1⟩
theorem segmentRead_any (b : Nat) (a : Option Addr) (c : Nat) (x0 : List Tok) (w : World) (hA : ArgsIn b w a [x0]) (h : w.heap[b]? = some (.cells #[.int .i64 0] 133 (0, 0))) :
  Calls Tryz.prog 164 #[.pointer (some ⟨b, 0, none⟩), .slice a 1 c] w fun e w' => Below b w w' /\ SeOut b (secF x0) e w' := by
 obtain ⟨G, a', c', rfl, hG, hcell, hT, _⟩ := args_at1 hA
 have hw := word_any a' c' x0 w hT.lies
 have hF : secF x0 = if wordF x0 = sText then .ok ⟨5, [], [], linE, 0⟩ else if wordF x0 = sData then .ok ⟨5, [], [], linE, 1⟩ else .error 20 := rfl
 rw [hF]
 clear hF hT hA
 generalize x0.length = ln at hw hcell
 generalize wordF x0 = wd at hw ⊢
 have hlt := blk_lt h
 have z0 := (cell_blockT h 0).trans rfl
 have f0 := frozen_of_row w b 0 _ 133 h
 obtain ⟨s1, s2⟩ := row_set h 0 (.int .i64 0)
 obtain ⟨t1, t2⟩ := row_set h 0 (.int .i64 1)
 replace s1 := Hid.intro s1
 replace s2 := Hid.intro s2
 replace t1 := Hid.intro t1
 replace t2 := Hid.intro t2
 replace hw := Hid.intro hw
 clear h
 by_cases h1 : wd = sText
 ·rw [if_pos h1]
  have d1 : ((str wd).toList == [116, 101, 120, 116]) = true := by rw [str_toList, h1]; rfl
  clear h1
  go_enter Tryz.func164, Tryz.ntmps164
  go_wp2_with (go_at_call 162; (with_reducible refine (hw.out).mono ?_); rintro e w1 ⟨rfl, hw1⟩; subst hw1)
  all_goals first | omega | skip
  go_ret
  exact ⟨below_of_grown s2.out (Nat.le_refl _) (by omega), rfl, rfl, s1.out⟩
 ·rw [if_neg h1]
  have d1 : ((str wd).toList == [116, 101, 120, 116]) = false := by rw [str_toList]; exact beq_false_of_ne h1
  clear h1
  by_cases h2 : wd = sData
  ·rw [if_pos h2]
   have d2 : ((str wd).toList == [100, 97, 116, 97]) = true := by rw [str_toList, h2]; rfl
   clear h2
   go_enter Tryz.func164, Tryz.ntmps164
   go_wp2_with (go_at_call 162; (with_reducible refine (hw.out).mono ?_); rintro e w1 ⟨rfl, hw1⟩; subst hw1)
   all_goals first | omega | skip
   go_ret
   exact ⟨below_of_grown t2.out (Nat.le_refl _) (by omega), rfl, rfl, t1.out⟩
  ·rw [if_neg h2]
   have d2 : ((str wd).toList == [100, 97, 116, 97]) = false := by rw [str_toList]; exact beq_false_of_ne h2
   clear h2
   go_enter Tryz.func164, Tryz.ntmps164
   go_wp2_with (go_at_call 162; (with_reducible refine (hw.out).mono ?_); rintro e w1 ⟨rfl, hw1⟩; subst hw1)
   all_goals first | omega | skip
   go_ret
   exact ⟨Below.refl _ _, rfl⟩
theorem parse_two (a : Option Addr) (c : Nat) (arg : List Tok) (w : World) (hT : Toks w a c arg) :
  Calls Tryz.prog 122 #[.slice a arg.length c] w fun e w' => Below w.heap.size w w' /\ ∃ y vb m vd, e = .returned (.tuple #[linV (.slice vb m vd) y.const, .int .i64 (whyOf (parseF arg))]) /\ w'.ownsRow w.heap.size 61 2 (.slice vb m vd) y.terms.length (rowT y.terms) /\ (∀ x', parseF arg = .ok x' -> x' = y) := by
 refine (parse_any a c arg w hT).mono ?_
 rintro e w' ⟨hb, hm⟩
 refine ⟨hb, ?_⟩
 cases hp : parseF arg with
 | error k =>
  rw [hp] at hm
  simp only at hm
  subst hm
  exact ⟨linE, none, 0, 0, rfl, ⟨by simp [linE, rowT], .inl ⟨rfl, rfl⟩⟩, fun x' h => by cases h⟩
 | ok y =>
  rw [hp] at hm
  obtain ⟨va, n, vc, rfl, ho⟩ := hm
  exact ⟨y, va, n, vc, rfl, ho, fun x' h => by cases h; rfl⟩
theorem nameF_err {arg : List Tok} {k : Int} (h : nameF arg = .error k) : k = 20 := by
 unfold nameF at h
 split at h
 ·cases h
 ·cases h; rfl
set_option maxHeartbeats 1000000 in
theorem equRead_any (b : Nat) (a : Option Addr) (c : Nat) (x0 x1 : List Tok) (w : World) (hA : ArgsIn b w a [x0, x1]) (h : w.heap[b]? = some (.cells #[.string (str []), .slice none 0 0, .int .u32 0] 127 (0, 0))) :
  Calls Tryz.prog 160 #[.pointer (some ⟨b, 0, none⟩), .slice a 2 c] w fun e w' => Below b w w' /\ EqOut b (equF x0 x1) e w' := by
 obtain ⟨G, a', c', rfl, hG, hcell, hT, _⟩ := args_at1 hA
 have hnm := name_any a' c' x0 w hT.lies hT.short
 have hlt := blk_lt h
 have hprs : Hid (∀ w1, Below b w w1 -> ∃ a2 c2, w1.cell? ⟨G, 1, none⟩ = some (.slice a2 x1.length c2) /\ Calls Tryz.prog 122 #[.slice a2 x1.length c2] w1 fun e w' => Below w1.heap.size w1 w' /\ ∃ y vb m vd, e = .returned (.tuple #[linV (.slice vb m vd) y.const, .int .i64 (whyOf (parseF x1))]) /\ w'.ownsRow w1.heap.size 61 2 (.slice vb m vd) y.terms.length (rowT y.terms) /\ (∀ x', parseF x1 = .ok x' -> x' = y)) := fun w1 hb => by
  obtain ⟨G', a2, c2, hG', _, k1, k2, _⟩ := (hA.below hb).at (i := 1) (xs := x1) rfl
  cases hG'
  exact ⟨a2, c2, k1, parse_two a2 c2 x1 w1 k2⟩
 clear hT hA
 generalize x0.length = ln at hnm hcell
 generalize x1.length = ln1 at hprs
 have hHH := Hid.intro h
 clear h
 cases hnf : nameF x0 with
 | error k =>
  rw [show equF x0 x1 = .error k from by unfold equF; rw [hnf]]
  obtain rfl := nameF_err hnf
  rw [hnf] at hnm
  simp only [nameVI] at hnm
  replace hnm := Hid.intro hnm
  clear hprs hnf
  go_enter Tryz.func160, Tryz.ntmps160
  go_wp2_with (go_at_call 161; (with_reducible refine (hnm.out).mono ?_); rintro e w1 ⟨rfl, hb1⟩; have hh1 := (show w1.heap[b]? = some (.cells #[.string (str []), .slice none 0 0, .int .u32 0] 127 (0, 0)) from by rw [hb1.block b hlt]; exact hHH.out); have z0 := (cell_blockT hh1 0).trans rfl; have f0 := frozen_of_row w1 b 0 _ 127 hh1; replace hh1 := Hid.intro hh1)
  all_goals first | omega | skip
  go_ret
  obtain ⟨s1, s2⟩ := row_set hh1.out 0 (.string ⟨#[]⟩)
  have := hb1.size
  exact ⟨(hb1.mono (by omega)).grown s2 (by omega) (fun j hj => by cases hj; exact Nat.le_refl _), rfl⟩
 | ok s =>
  rw [show equF x0 x1 = EquR s (parseF x1) from by unfold equF; rw [hnf]; rfl]
  rw [hnf] at hnm
  simp only [nameVI] at hnm
  replace hnm := Hid.intro hnm
  clear hnf
  generalize parseF x1 = R1 at hprs ⊢
  obtain ⟨W, hW1, hW2⟩ : ∃ W, whyOf R1 = W /\ LinW R1 W := ⟨_, rfl, by cases R1 <;> rfl⟩
  rw [hW1] at hprs
  replace hW2 := Hid.intro hW2
  clear hW1
  go_enter Tryz.func160, Tryz.ntmps160
  go_upto_region 4 with (go_at_call 161; (with_reducible refine (hnm.out).mono ?_); rintro e w1 ⟨rfl, hb1⟩; have hh1 := (show w1.heap[b]? = some (.cells #[.string (str []), .slice none 0 0, .int .u32 0] 127 (0, 0)) from by rw [hb1.block b hlt]; exact hHH.out); have z0 := (cell_blockT hh1 0).trans rfl; have f0 := frozen_of_row w1 b 0 _ 127 hh1; replace hh1 := Hid.intro hh1)
  all_goals first | omega | skip
  obtain ⟨s1, s2⟩ := row_set hh1.out 0 (.string (str s))
  have hsz1 := hb1.size
  have hB1 : Below b w (w1.setCell ⟨b, 0, none⟩ (.string (str s))) := (hb1.mono (by omega)).grown s2 (by omega) (fun j hj => by cases hj; exact Nat.le_refl _)
  have s1' : (w1.setCell ⟨b, 0, none⟩ (.string (str s))).heap[b]? = some (.cells #[.string (str s), .slice none 0 0, .int .u32 0] 127 (0, 0)) := s1
  generalize (w1.setCell ⟨b, 0, none⟩ (.string (str s))) = w2 at s1' hB1 ⊢
  clear s1 s2 z0 f0 hh1 hHH hnm hcell
  have hlt2 := blk_lt s1'
  obtain ⟨a2, c2, hcell2, hp2⟩ := hprs.out w2 hB1
  replace hp2 := Hid.intro hp2
  replace s1' := Hid.intro s1'
  go_wp2_with (go_at_call 122; (with_reducible refine (hp2.out).mono ?_); rintro e w3 ⟨hb3, y, vb, m, vd, rfl, ho, hx⟩; have hh3 := (show w3.heap[b]? = some (.cells #[.string (str s), .slice none 0 0, .int .u32 0] 127 (0, 0)) from by rw [hb3.block b hlt2]; exact s1'.out); have z1 := (cell_blockT hh3 1).trans rfl; have z2 := (cell_blockT hh3 2).trans rfl; have f1 := frozen_of_row w3 b 1 _ 127 hh3; have f2 := frozen_of_row w3 b 2 _ 127 hh3; replace hh3 := Hid.intro hh3)
  all_goals first | omega | skip
  go_ret
  obtain ⟨u1, u2⟩ := row_set hh3.out 1 (.slice vb m vd)
  obtain ⟨v1, v2⟩ := row_set u1 2 (.int .u32 y.const)
  have hsz3 := hb3.size
  have hg := grown_trans u2 v2
  refine ⟨(hB1.trans (hb3.mono (by omega))).grown hg (by omega) (fun j hj => by cases hj; exact Nat.le_refl _), ?_⟩
  cases R1 with
  | error k => obtain rfl : W = k := hW2.out; rfl
  | ok y' =>
   have : W = 0 := hW2.out
   subst this
   obtain rfl := hx y' rfl
   exact ⟨rfl, s, y', rfl, vb, m, vd, v1, own_low (own_weaken ho (by omega)) hg (by omega)⟩
end Go.Proofs.YtlkmegchaeokgaaGreatDoor
/- item's reader of several items: bytes and words. -/
namespace Go.Proofs.YtlkmegchaeokgaaGreatDoor
open Go.ChangeShapes Go.WideShapes Go.ChangeAt Go.RowKit
set_option linter.unusedVariables false
set_option maxRecDepth 100000
def rowI (p : List (Itm × Value)) : List Value := p.flatMap fun q => (itmCells q.1 q.2).toList
theorem rowI_push (p : List (Itm × Value)) (q : Itm × Value) : rowI (p ++ [q]) = rowI p ++ (itmCells q.1 q.2).toList := by simp [rowI]
structure ItOwn (lo : Nat) (w : World) (v : Value) (p : List (Itm × Value)) : Prop where
 row : w.ownsRow lo 33 10 v p.length (rowI p)
 each : ∀ q ∈ p, w.ownsRow lo 61 2 q.2 q.1.e.terms.length (rowT q.1.e.terms)
theorem ItOwn.start (lo : Nat) (w : World) : ItOwn lo w (.slice none 0 0) [] := ⟨World.ownsRow_nil _ _ _ _, fun q h => by cases h⟩
theorem ItOwn.low {lo k : Nat} {w w' : World} {v : Value} {p : List (Itm × Value)} (h : ItOwn lo w v p) (hg : w.grownBy w' (some k)) (hk : k < lo) : ItOwn lo w' v p :=
 ⟨own_low h.row hg hk, fun q hq => own_low (h.each q hq) hg hk⟩
theorem ItOwn.below {lo : Nat} {w w' : World} {v : Value} {p : List (Itm × Value)} (h : ItOwn lo w v p) (hb : Below w.heap.size w w') : ItOwn lo w' v p :=
 ⟨own_below' h.row hb, fun q hq => own_below' (h.each q hq) hb⟩
theorem ItOwn.push {lo : Nat} {w w' : World} {v v' : Value} {p : List (Itm × Value)} {q : Itm × Value} (h : ItOwn lo w v p) (hq : w.ownsRow lo 61 2 q.2 q.1.e.terms.length (rowT q.1.e.terms)) (hg : w.grownBy w' v.ownBlock) (hrow : w'.ownsRow lo 33 10 v' (p.length + 1) (rowI (p ++ [q]))) : ItOwn lo w' v' (p ++ [q]) := by
 refine ⟨by rw [List.length_append, List.length_singleton]; exact hrow, fun y hy => ?_⟩
 rcases List.mem_append.1 hy with hy | hy
 ·exact (h.each y hy).kept hg (own_other (h.each y hy) h.row (by decide))
 ·simp at hy
  subst hy
  exact hq.kept hg (own_other hq h.row (by decide))
theorem ItOwn.lies {lo : Nat} {w : World} {v : Value} {p : List (Itm × Value)} (h : ItOwn lo w v p) : ItemsLie w v (p.map (·.1)) := by
 rcases h.row.2 with ⟨hv, h0⟩ | ⟨g, cap, cur, hv, _, hg, _⟩
 ·exact .inl ⟨by rw [List.length_eq_zero_iff.1 h0]; rfl, hv⟩
 ·refine .inr ⟨g, cap, by rw [hv, List.length_map], (Array.getElem?_eq_some_iff.1 hg).1, fun i x hx => ?_⟩
  rw [List.getElem?_map] at hx
  obtain ⟨q, hq, rfl⟩ := Option.map_eq_some_iff.1 hx
  have hlt := (List.getElem?_eq_some_iff.1 hq).1
  have ho := h.each q (List.mem_of_getElem? hq)
  obtain ⟨va, vc, hva⟩ := own_slice ho
  have hrow := h.row
  rw [hv] at hrow
  have key : ∀ j, j < 10 -> w.cell? ⟨g, i * 10 + j, none⟩ = (itmCells q.1 q.2).toList[j]? := fun j hj => by
   rw [hrow.cellAt _ (by omega)]
   exact flat_at (fun q : Itm × Value => (itmCells q.1 q.2).toList) 10 (fun _ => rfl) p i j q hq hj
  rw [hva] at key ho
  exact ⟨va, _, vc, ⟨key 0 (by omega), key 1 (by omega), key 2 (by omega), key 3 (by omega), key 4 (by omega), key 5 (by omega), key 6 (by omega), key 7 (by omega), key 8 (by omega), key 9 (by omega)⟩, rfl, own_tmLies ho⟩
theorem info33 : (Tryz.prog.info? 33).map (fun i => (i.zero, i.size, i.bytes)) = some (some (.agg #[.int .i64 0, .string ⟨#[]⟩, .int .i64 0, .int .i64 0, .int .i64 0, .int .i32 0, .int .i64 0, .slice none 0 0, .int .u32 0, .int .i64 0]), 10, 104) := by kernel_rfl
theorem step_item {ops : Array Oper} {o : Oper} {a : Act} {K : Act -> World -> Prop} {Q : Exit -> Act -> World -> Prop} {E : Prop} (w : World) (hgd : o.guard = none) (s x : Operand)
  (ho : o.op = .call { callee := .builtin .append, args := #[s, x], argTypes := #[35, 35] }) (base : Nat) (a1 : Option Addr) (L c1 : Nat) (p : List (Itm × Value)) (hs : a.eval s = .slice a1 L c1) (hown : w.ownsRow base 33 10 (.slice a1 L c1) L (rowI p))
  (g : Nat) (y : Itm) (va : Option Addr) (n vc : Nat) (hx : a.eval x = .slice (some ⟨g, 0, none⟩) 1 1) (hc : ∀ j u, (itmCells y (.slice va n vc)).toList[j]? = some u -> w.cell? ((⟨g, 0, none⟩ : Addr).add j) = some u) (hm : L <= 4500000) (hbase : base <= w.heap.size)
  (hK : ∀ a' c' w', w'.ownsRow base 33 10 (.slice a' (L + 1) c') (L + 1) (rowI (p ++ [(y, .slice va n vc)])) -> w.grownBy w' (Value.slice a1 L c1).ownBlock -> K (a.put o.dst (.slice a' (L + 1) c')) w') :
  if Region.wanted o (yielded ops a.tmps) = true then Oper.wp Tryz.prog o a w K Q else E := by
 have hw : Region.wanted o (yielded ops a.tmps) = true := by simp [Region.wanted, hgd]
 rw [if_pos hw]
 obtain ⟨i0, hi, hz0, hz1, hz2⟩ := info_parts info33
 obtain ⟨v', w', hrun, r1, r2, _⟩ := run_append_own_wide (P := Tryz.prog) w base 35 o.type 33 i0 (.agg #[.int .i64 0, .string ⟨#[]⟩, .int .i64 0, .int .i64 0, .int .i64 0, .int .i32 0, .int .i64 0, .slice none 0 0, .int .u32 0, .int .i64 0]) 10 104 Tryz.underlying35 hi hz0 hz1 hz2 rfl (by decide) (.slice a1 L c1) L (rowI p) hown ⟨g, 0, none⟩ 1 1 (itmCells y (.slice va n vc)).toList rfl hc (by simp [Value.oneCell']) (by unfold maxLen; omega) (by omega) hbase
 obtain ⟨a', c', rfl⟩ := own_slice r1
 unfold Oper.wp
 simp [execOp, ho, resolve, invoke, builtin, hs, hx, hrun, Result.andThen]
 exact hK a' c' w' (by rw [rowI_push]; exact r1) r2
def itsAcc (acc : List Itm) (R : Except Int (List Itm)) : Except Int (List Itm) := match R with | .error k => .error k | .ok l => .ok (acc ++ l)
structure SvSt (w : World) (b : Nat) (kind : Int) (a : Option Addr) (args : List (List Tok)) (R0 : Except Int (List Itm)) (i : Nat) (p : List (Itm × Value)) (a1 : Option Addr) (L c1 : Nat) (wr : World) : Prop where
 bel : Below b w wr
 ins : ArgsIn b wr a args
 blk : wr.heap[b]? = some (.cells #[.int .i64 kind, .slice a1 L c1] 124 (0, 0))
 own : ItOwn (b + 1) wr (.slice a1 L c1) p
 len : L = p.length
 eq : R0 = itsAcc (p.map (·.1)) (itsF kind (args.drop i))
 few : L <= i
theorem SvSt.below {w : World} {b : Nat} {kind : Int} {a : Option Addr} {args : List (List Tok)} {R0 : Except Int (List Itm)} {i : Nat} {p : List (Itm × Value)} {a1 : Option Addr} {L c1 : Nat} {wr w' : World} (h : SvSt w b kind a args R0 i p a1 L c1 wr) (hb : Below wr.heap.size wr w') : SvSt w b kind a args R0 i p a1 L c1 w' := by
 have hlt := blk_lt h.blk
 exact ⟨h.bel.trans (hb.mono (by omega)), h.ins.below (hb.mono (by omega)), by rw [hb.block b hlt]; exact h.blk, h.own.below hb, h.len, h.eq, h.few⟩
theorem SvSt.push {w : World} {b : Nat} {kind : Int} {a : Option Addr} {args : List (List Tok)} {R0 : Except Int (List Itm)} {i : Nat} {p : List (Itm × Value)} {a1 : Option Addr} {L c1 : Nat} {wr wa w3 : World} (h : SvSt w b kind a args R0 i p a1 L c1 wr) (hb : Below wr.heap.size wr wa) {arg : List Tok} (harg : args[i]? = some arg) {q : Itm × Value} (hit : itOf kind arg = .ok q.1) (hq : wr.ownsRow (b + 1) 61 2 q.2 q.1.e.terms.length (rowT q.1.e.terms))
  {a3 : Option Addr} {c3 : Nat} (hrow : w3.ownsRow (b + 1) 33 10 (.slice a3 (L + 1) c3) (L + 1) (rowI (p ++ [q]))) (hg : wa.grownBy w3 (Value.slice a1 L c1).ownBlock) : SvSt w b kind a args R0 (i + 1) (p ++ [q]) a3 (L + 1) c3 (w3.setCell ⟨b, 1, none⟩ (.slice a3 (L + 1) c3)) /\ w3.heap[b]? = some (.cells #[.int .i64 kind, .slice a1 L c1] 124 (0, 0)) := by
 have hk := h.below hb
 have hlt := blk_lt hk.blk
 have hnb : (Value.slice a1 L c1).ownBlock ≠ some b := fun e => by have := (hk.own.row.lt _ e).1; omega
 have h3 : w3.heap[b]? = some (.cells #[.int .i64 kind, .slice a1 L c1] 124 (0, 0)) := by rw [hg.block b hlt (fun e => hnb e.symm)]; exact hk.blk
 obtain ⟨s1, s2⟩ := row_set h3 1 (.slice a3 (L + 1) c3)
 have hlen := h.len
 have hB3 : Below b wa w3 := (Below.refl b wa).grown hg (by omega) (fun j hj => by have := (hk.own.row.lt _ hj).1; omega)
 have hsz := hg.size
 have hB4 : Below b wa (w3.setCell ⟨b, 1, none⟩ (.slice a3 (L + 1) c3)) := hB3.grown s2 (by omega) (fun j hj => by cases hj; exact Nat.le_refl _)
 refine ⟨⟨hk.bel.trans hB4, hk.ins.below hB4, s1, ?_, by simp [hlen], ?_, by have := h.few; omega⟩, h3⟩
 ·refine ItOwn.low ?_ s2 (by omega)
  exact hk.own.push (own_below' hq hb) hg (by rw [<- hlen]; exact hrow)
 ·rw [h.eq, drop_at args i arg harg, itsF, hit]
  simp only [itsAcc]
  cases itsF kind (List.drop (i + 1) args) with
  | error k => rfl
  | ok l => simp
theorem SvSt.fin {w : World} {b : Nat} {kind : Int} {a : Option Addr} {args : List (List Tok)} {R0 : Except Int (List Itm)} {i : Nat} {p : List (Itm × Value)} {a1 : Option Addr} {L c1 : Nat} {wr : World} (h : SvSt w b kind a args R0 i p a1 L c1 wr) (hi : args.length <= i) : R0 = .ok (p.map (·.1)) := by
 rw [h.eq, List.drop_eq_nil_of_le hi]
 simp [itsF, itsAcc]
theorem SvSt.err {w : World} {b : Nat} {kind : Int} {a : Option Addr} {args : List (List Tok)} {R0 : Except Int (List Itm)} {i : Nat} {p : List (Itm × Value)} {a1 : Option Addr} {L c1 : Nat} {wr : World} (h : SvSt w b kind a args R0 i p a1 L c1 wr) {arg : List Tok} (harg : args[i]? = some arg) {k : Int} (hit : itOf kind arg = .error k) : R0 = .error k := by
 rw [h.eq, drop_at args i arg harg, itsF, hit]
 rfl
theorem itOf_err {kind : Int} {arg : List Tok} {k : Int} (h : itOf kind arg = .error k) : k = 20 ∨ k = 21 := by
 unfold itOf at h
 split at h
 ·exact exprF_err h
 ·split at h
  ·rename_i hn; cases h; exact numF_err hn
  ·cases h
def SvOut (b : Nat) (kind : Int) (R : Except Int (List Itm)) (e : Ending) (w' : World) : Prop := match R with | .error k => e = .returned (.int .i64 k) | .ok l => e = .returned (.int .i64 0) /\ ∃ p a1 L c1, p.map (·.1) = l /\ w'.heap[b]? = some (.cells #[.int .i64 kind, .slice a1 L c1] 124 (0, 0)) /\ ItOwn (b + 1) w' (.slice a1 L c1) p
def ExpW (R : Except Int Itm) (y : Lin) (W : Int) : Prop := match R with | .error k => W = k | .ok x => W = 0 /\ { itmE with kind := 6, e := y } = x
def WhyW (R : Except Int Itm) (W : Int) : Prop := match R with | .error k => W = k | .ok _ => W = 0
theorem box_set {w w1 : World} {o : Obj} {x : Itm} {v0 : Value} (ho : o = .cells (itmCells x v0) 33) (hb : Below (w.alloc o).heap.size (w.alloc o) w1) : w1.heap[w.heap.size]? = some (.cells (itmCells x v0) 33 (0, 0)) /\ Below w.heap.size w w1 := by
 subst ho
 refine ⟨?_, (below_alloc w _).trans (hb.mono (by simp))⟩
 rw [hb.block _ (by simp)]
 exact heap_alloc_new w _
set_option maxHeartbeats 4000000 in
theorem sevRead_5 (b : Nat) (a : Option Addr) (c : Nat) (args : List (List Tok)) (hm : args.length <= 1100000) (w : World) (hA : ArgsIn b w a args) (h : w.heap[b]? = some (.cells #[.int .i64 5, .slice none 0 0] 124 (0, 0))) :
  Calls Tryz.prog 159 #[.pointer (some ⟨b, 0, none⟩), .slice a args.length c] w fun e w' => Below b w w' /\ SvOut b 5 (itsF 5 args) e w' := by
 obtain ⟨R0, hR0⟩ : ∃ R0, itsF 5 args = R0 := ⟨_, rfl⟩
 have hlt0 := blk_lt h
 have hst : Hid (SvSt w b 5 a args R0 0 [] none 0 0 w) := ⟨Below.refl _ _, hA, h, ItOwn.start _ _, rfl, by rw [<- hR0]; simp only [itsAcc, List.drop_zero]; cases itsF 5 args <;> rfl, Nat.le_refl _⟩
 rw [hR0]
 clear hR0 h hA
 obtain ⟨n0, hn0⟩ : ∃ n0, n0 = args.length := ⟨_, rfl⟩
 rw [<- hn0] at hm ⊢
 replace hn0 := Hid.intro hn0
 go_enter Tryz.func159, Tryz.ntmps159
 go_wp2
 go_loopw [10] (fun v10 wr => ∃ (i : Nat) (p : List (Itm × Value)) (a1 : Option Addr) (L c1 : Nat), i <= n0 /\ v10 = .int .i64 (i : Int) /\ Hid (SvSt w b 5 a args R0 i p a1 L c1 wr)) (fun v10 wr => n0 - (intOf v10).toNat)
 case atStart => exact ⟨0, [], none, 0, 0, by omega, rfl, hst⟩
 case round =>
  clear hst
  obtain ⟨i, p, a1, L, c1, hi, rfl, hS⟩ := hrel
  by_cases hlt : i < n0
  ·obtain ⟨arg, harg⟩ : ∃ arg, args[i]? = some arg := ⟨args[i]'(by rw [<- hn0.out]; exact hlt), List.getElem?_eq_getElem _⟩
   obtain ⟨G, a', c', rfl, hG, hcell, hT, hy⟩ := hS.out.ins.at harg
   have hbl := blk_lt hS.out.blk
   have hlt2 : (i : Int) < (n0 : Int) := by omega
   have z0 := (cell_blockT hS.out.blk 0).trans rfl
   have zA : ∀ o, (wr.alloc o).cell? ⟨b, 0, none⟩ = some (.int .i64 5) := fun o => (cell_blockT (hS.out.below (below_alloc wr o)).blk 0).trans rfl
   have hTA : Toks (wr.alloc (.cells #[.int .i64 5, .string ⟨#[]⟩, .int .i64 0, .int .i64 0, .int .i64 0, .int .i32 0, .int .i64 0, .slice none 0 0, .int .u32 0, .int .i64 0] 33)) a' c' arg := hT.low (B := wr.heap.size) hT.old (below_alloc wr _) (Nat.le_refl _)
   have hLn : L <= 1100000 := by have := hS.out.few; omega
   have hone := numberOf_any 5 a' c' arg _ hTA
   have hcell' := hcell
   obtain ⟨R1, hR1⟩ : ∃ R1, itOf 5 arg = R1 := ⟨_, rfl⟩
   have hse := @itOf_err 5 arg
   rw [hR1] at hse
   obtain ⟨Nn, W, hN, hWR⟩ := num_w 5 (by decide) arg
   rw [hR1] at hWR
   replace hWR := Hid.intro hWR
   rw [hN] at hone
   clear hN
   have hargH := Hid.intro harg
   have hR1H := Hid.intro hR1
   clear hT hTA hcell' harg hR1 hy
   generalize arg.length = ln at hcell hone
   replace hone := Hid.intro hone
   go_upto_region 8 with (go_at_call 120; (with_reducible refine (hone.out).mono ?_); rintro e w1 ⟨rfl, hb1⟩; obtain ⟨hx1, hB1⟩ := box_set (x := { itmE with kind := 5 }) (v0 := .slice none 0 0) rfl hb1; have x9 := (cell_blockT hx1 9).trans rfl; have xf := frozen_of_row w1 wr.heap.size 9 _ 33 hx1; replace hx1 := Hid.intro hx1)
   all_goals first | omega | skip
   obtain ⟨s1, s2⟩ := row_set hx1.out 9 (.int .i64 Nn)
   have hsz1 := hB1.size
   have hB2 : Below wr.heap.size wr (w1.setCell ⟨wr.heap.size, 9, none⟩ (.int .i64 Nn)) := hB1.grown s2 (by omega) (fun j hj => by cases hj; exact Nat.le_refl _)
   have hG2 : Hid ((w1.setCell ⟨wr.heap.size, 9, none⟩ (.int .i64 Nn)).heap[wr.heap.size]? = some (.cells (itmCells { itmE with kind := 5, n := Nn } (.slice none 0 0)) 33 (0, 0))) := s1
   clear s1 s2 x9 xf hx1 hone
   generalize (w1.setCell ⟨wr.heap.size, 9, none⟩ (.int .i64 Nn)) = w2 at hB2 hG2 ⊢
   have hQ : Hid (w2.ownsRow (b + 1) 61 2 (.slice none 0 0) linE.terms.length (rowT linE.terms)) := World.ownsRow_nil _ _ _ _
   have hS2 : Hid (SvSt w b 5 (some ⟨G, 0, none⟩) args R0 i p a1 L c1 w2) := hS.out.below hB2
   clear zA z0 hcell
   cases R1 with
   | error k =>
    have hk0 : (k == 0) = false := by rcases hse rfl with rfl | rfl <;> rfl
    obtain rfl : W = k := hWR.out
    go_wp2
    all_goals first | omega | skip
    go_ret
    rw [hS2.out.err hargH.out hR1H.out]
    exact ⟨hS2.out.bel, rfl⟩
   | ok x =>
    obtain ⟨hW0, hx⟩ : W = 0 /\ { itmE with kind := 5, n := Nn } = x := hWR.out
    subst hW0
    subst hx
    clear hse
    have hG2L : w2.heap[wr.heap.size]? = some (.cells #[.int .i64 5, .string ⟨#[]⟩, .int .i64 0, .int .i64 0, .int .i64 0, .int .i32 0, .int .i64 0, .slice none 0 0, .int .u32 0, .int .i64 Nn] 33 (0, 0)) := hG2.out
    have y0 := (cell_blockT hG2L 0).trans rfl
    have y1 := (cell_blockT hG2L 1).trans rfl
    have y2 := (cell_blockT hG2L 2).trans rfl
    have y3 := (cell_blockT hG2L 3).trans rfl
    have y4 := (cell_blockT hG2L 4).trans rfl
    have y5 := (cell_blockT hG2L 5).trans rfl
    have y6 := (cell_blockT hG2L 6).trans rfl
    have y7 := (cell_blockT hG2L 7).trans rfl
    have y8 := (cell_blockT hG2L 8).trans rfl
    have y9 := (cell_blockT hG2L 9).trans rfl
    replace hG2L := Hid.intro hG2L
    have z1 := (cell_blockT hS2.out.blk 1).trans rfl
    have zA1 : ∀ o, (w2.alloc o).cell? ⟨b, 1, none⟩ = some (.slice a1 L c1) := fun o => (cell_blockT (hS2.out.below (below_alloc w2 o)).blk 1).trans rfl
    have cnH : Hid (∀ j u, (itmCells ({ itmE with kind := 5, n := Nn }) (Value.slice none 0 0)).toList[j]? = some u -> (w2.alloc (.cells #[.int .i64 5, .string ⟨#[]⟩, .int .i64 0, .int .i64 0, .int .i64 0, .int .i32 0, .int .i64 0, .slice none 0 0, .int .u32 0, .int .i64 Nn] 33)).drew.cell? ((⟨w2.heap.size, 0, none⟩ : Addr).add j) = some u) := cells_new w2 #[.int .i64 5, .string ⟨#[]⟩, .int .i64 0, .int .i64 0, .int .i64 0, .int .i32 0, .int .i64 0, .slice none 0 0, .int .u32 0, .int .i64 Nn] 33
    have hsz2 := blk_lt hS2.out.blk
    have hownH : Hid ((w2.alloc (.cells #[.int .i64 5, .string ⟨#[]⟩, .int .i64 0, .int .i64 0, .int .i64 0, .int .i32 0, .int .i64 0, .slice none 0 0, .int .u32 0, .int .i64 Nn] 33)).drew.ownsRow (b + 1) 33 10 (.slice a1 L c1) L (rowI p)) := by
     have := (hS2.out.below ((below_alloc w2 (.cells #[.int .i64 5, .string ⟨#[]⟩, .int .i64 0, .int .i64 0, .int .i64 0, .int .i32 0, .int .i64 0, .slice none 0 0, .int .u32 0, .int .i64 Nn] 33)).drew)).own.row
     rw [<- hS2.out.len] at this
     exact this
    go_wp2
    all_goals first | omega | skip
    go_region_law (refine step_item _ rfl (.tmp 47) (.tmp 49) rfl (b + 1) a1 L c1 p rfl hownH.out w2.heap.size ({ itmE with kind := 5, n := Nn }) none 0 0 rfl cnH.out (by omega) (by simp; omega) ?_; intro a3 c3 w3 ho3 hg3; obtain ⟨hpf, hb3⟩ := hS2.out.push ((below_alloc w2 _).drew) hargH.out (q := ({ itmE with kind := 5, n := Nn }, Value.slice none 0 0)) hR1H.out hQ.out ho3 hg3; replace hpf := Hid.intro hpf; have u1 := (cell_blockT hb3 1).trans rfl; have uf := frozen_of_row w3 b 1 _ 124 hb3; clear hb3)
    all_goals clear u1 uf y0 y1 y2 y3 y4 y5 y6 y7 y8 y9 z1 zA1
    all_goals go_wp2_with fail
    all_goals go_roundw
    all_goals first
     | exact ⟨i + 1, _, _, _, _, by omega, by go_num, hpf⟩
     | (simp [intOf]; omega)
  ·have hin : i = n0 := by omega
   have hfin : Hid (R0 = .ok (p.map (·.1))) := hS.out.fin (by rw [<- hn0.out]; omega)
   subst hin
   have hlt3 : ¬ ((i : Int) < (i : Int)) := by omega
   go_wp2
   all_goals first | omega | skip
   go_ret
   rw [hfin.out]
   exact ⟨hS.out.bel, rfl, p, a1, L, c1, rfl, hS.out.blk, hS.out.own⟩
set_option maxHeartbeats 4000000 in
theorem sevRead_6 (b : Nat) (a : Option Addr) (c : Nat) (args : List (List Tok)) (hm : args.length <= 1100000) (w : World) (hA : ArgsIn b w a args) (h : w.heap[b]? = some (.cells #[.int .i64 6, .slice none 0 0] 124 (0, 0))) :
  Calls Tryz.prog 159 #[.pointer (some ⟨b, 0, none⟩), .slice a args.length c] w fun e w' => Below b w w' /\ SvOut b 6 (itsF 6 args) e w' := by
 obtain ⟨R0, hR0⟩ : ∃ R0, itsF 6 args = R0 := ⟨_, rfl⟩
 have hlt0 := blk_lt h
 have hst : Hid (SvSt w b 6 a args R0 0 [] none 0 0 w) := ⟨Below.refl _ _, hA, h, ItOwn.start _ _, rfl, by rw [<- hR0]; simp only [itsAcc, List.drop_zero]; cases itsF 6 args <;> rfl, Nat.le_refl _⟩
 rw [hR0]
 clear hR0 h hA
 obtain ⟨n0, hn0⟩ : ∃ n0, n0 = args.length := ⟨_, rfl⟩
 rw [<- hn0] at hm ⊢
 replace hn0 := Hid.intro hn0
 go_enter Tryz.func159, Tryz.ntmps159
 go_wp2
 go_loopw [10] (fun v10 wr => ∃ (i : Nat) (p : List (Itm × Value)) (a1 : Option Addr) (L c1 : Nat), i <= n0 /\ v10 = .int .i64 (i : Int) /\ Hid (SvSt w b 6 a args R0 i p a1 L c1 wr)) (fun v10 wr => n0 - (intOf v10).toNat)
 case atStart => exact ⟨0, [], none, 0, 0, by omega, rfl, hst⟩
 case round =>
  clear hst
  obtain ⟨i, p, a1, L, c1, hi, rfl, hS⟩ := hrel
  by_cases hlt : i < n0
  ·obtain ⟨arg, harg⟩ : ∃ arg, args[i]? = some arg := ⟨args[i]'(by rw [<- hn0.out]; exact hlt), List.getElem?_eq_getElem _⟩
   obtain ⟨G, a', c', rfl, hG, hcell, hT, hy⟩ := hS.out.ins.at harg
   have hbl := blk_lt hS.out.blk
   have hlt2 : (i : Int) < (n0 : Int) := by omega
   have z0 := (cell_blockT hS.out.blk 0).trans rfl
   have zA : ∀ o, (wr.alloc o).cell? ⟨b, 0, none⟩ = some (.int .i64 6) := fun o => (cell_blockT (hS.out.below (below_alloc wr o)).blk 0).trans rfl
   have hTA : Toks (wr.alloc (.cells #[.int .i64 6, .string ⟨#[]⟩, .int .i64 0, .int .i64 0, .int .i64 0, .int .i32 0, .int .i64 0, .slice none 0 0, .int .u32 0, .int .i64 0] 33)) a' c' arg := hT.low (B := wr.heap.size) hT.old (below_alloc wr _) (Nat.le_refl _)
   have hLn : L <= 1100000 := by have := hS.out.few; omega
   have hone := parse_why a' c' arg { itmE with kind := 6 } _ hTA
   have hcell' := hcell
   obtain ⟨R1, hR1⟩ : ∃ R1, itOf 6 arg = R1 := ⟨_, rfl⟩
   have hse := @itOf_err 6 arg
   rw [hR1] at hse
   have hE : exprF arg { itmE with kind := 6 } = R1 := by rw [<- hR1]; rfl
   rw [hE] at hone
   clear hE
   obtain ⟨W, hW, hWR0⟩ : ∃ W, whyOf R1 = W /\ Hid (WhyW R1 W) := ⟨_, rfl, by cases R1 <;> rfl⟩
   rw [hW] at hone
   clear hW
   have hargH := Hid.intro harg
   have hR1H := Hid.intro hR1
   clear hT hTA hcell' harg hR1 hy
   generalize arg.length = ln at hcell hone
   replace hone := Hid.intro hone
   go_upto_region 8 with (go_at_call 122; (with_reducible refine (hone.out).mono ?_); rintro e w1 ⟨hb1, y, vb, m, vd, rfl, hoy, hxy⟩; obtain ⟨hx1, hB1⟩ := box_set (x := { itmE with kind := 6 }) (v0 := .slice none 0 0) rfl hb1; have x7 := (cell_blockT hx1 7).trans rfl; have x8 := (cell_blockT hx1 8).trans rfl; have xf7 := frozen_of_row w1 wr.heap.size 7 _ 33 hx1; have xf8 := frozen_of_row w1 wr.heap.size 8 _ 33 hx1; replace hx1 := Hid.intro hx1; replace hoy := Hid.intro hoy; replace hxy := Hid.intro hxy)
   all_goals first | omega | skip
   obtain ⟨s1, s2⟩ := row_set hx1.out 7 (.slice vb m vd)
   obtain ⟨t1, t2⟩ := row_set s1 8 (.int .u32 y.const)
   have hg12 := grown_trans s2 t2
   have hsz1 := hB1.size
   have hszA : (wr.alloc (.cells #[.int .i64 6, .string ⟨#[]⟩, .int .i64 0, .int .i64 0, .int .i64 0, .int .i32 0, .int .i64 0, .slice none 0 0, .int .u32 0, .int .i64 0] 33)).heap.size = wr.heap.size + 1 := by simp
   have hB2 : Below wr.heap.size wr ((w1.setCell ⟨wr.heap.size, 7, none⟩ (.slice vb m vd)).setCell ⟨wr.heap.size, 8, none⟩ (.int .u32 y.const)) := hB1.grown hg12 (by omega) (fun j hj => by cases hj; exact Nat.le_refl _)
   have hG2 : Hid (((w1.setCell ⟨wr.heap.size, 7, none⟩ (.slice vb m vd)).setCell ⟨wr.heap.size, 8, none⟩ (.int .u32 y.const)).heap[wr.heap.size]? = some (.cells (itmCells { itmE with kind := 6, e := y } (.slice vb m vd)) 33 (0, 0))) := t1
   have hQ : Hid (((w1.setCell ⟨wr.heap.size, 7, none⟩ (.slice vb m vd)).setCell ⟨wr.heap.size, 8, none⟩ (.int .u32 y.const)).ownsRow (b + 1) 61 2 (.slice vb m vd) y.terms.length (rowT y.terms)) := own_weaken (own_low hoy.out hg12 (by omega)) (by omega)
   have hWR : Hid (ExpW R1 y W) := by
    show ExpW R1 y W
    cases R1 with
    | error k => exact hWR0.out
    | ok x => exact ⟨hWR0.out, (hxy.out x rfl).symm⟩
   clear s1 s2 t1 t2 x7 x8 xf7 xf8 hx1 hone hoy hxy hWR0 hg12
   generalize ((w1.setCell ⟨wr.heap.size, 7, none⟩ (.slice vb m vd)).setCell ⟨wr.heap.size, 8, none⟩ (.int .u32 y.const)) = w2 at hB2 hG2 hQ ⊢
   have hS2 : Hid (SvSt w b 6 (some ⟨G, 0, none⟩) args R0 i p a1 L c1 w2) := hS.out.below hB2
   clear zA z0 hcell
   cases R1 with
   | error k =>
    have hk0 : (k == 0) = false := by rcases hse rfl with rfl | rfl <;> rfl
    obtain rfl : W = k := hWR.out
    go_wp2
    all_goals first | omega | skip
    go_ret
    rw [hS2.out.err hargH.out hR1H.out]
    exact ⟨hS2.out.bel, rfl⟩
   | ok x =>
    obtain ⟨hW0, hx⟩ : W = 0 /\ { itmE with kind := 6, e := y } = x := hWR.out
    subst hW0
    subst hx
    clear hse
    have hG2L : w2.heap[wr.heap.size]? = some (.cells #[.int .i64 6, .string ⟨#[]⟩, .int .i64 0, .int .i64 0, .int .i64 0, .int .i32 0, .int .i64 0, .slice vb m vd, .int .u32 y.const, .int .i64 0] 33 (0, 0)) := hG2.out
    have y0 := (cell_blockT hG2L 0).trans rfl
    have y1 := (cell_blockT hG2L 1).trans rfl
    have y2 := (cell_blockT hG2L 2).trans rfl
    have y3 := (cell_blockT hG2L 3).trans rfl
    have y4 := (cell_blockT hG2L 4).trans rfl
    have y5 := (cell_blockT hG2L 5).trans rfl
    have y6 := (cell_blockT hG2L 6).trans rfl
    have y7 := (cell_blockT hG2L 7).trans rfl
    have y8 := (cell_blockT hG2L 8).trans rfl
    have y9 := (cell_blockT hG2L 9).trans rfl
    replace hG2L := Hid.intro hG2L
    have z1 := (cell_blockT hS2.out.blk 1).trans rfl
    have zA1 : ∀ o, (w2.alloc o).cell? ⟨b, 1, none⟩ = some (.slice a1 L c1) := fun o => (cell_blockT (hS2.out.below (below_alloc w2 o)).blk 1).trans rfl
    have cnH : Hid (∀ j u, (itmCells ({ itmE with kind := 6, e := y }) (Value.slice vb m vd)).toList[j]? = some u -> (w2.alloc (.cells #[.int .i64 6, .string ⟨#[]⟩, .int .i64 0, .int .i64 0, .int .i64 0, .int .i32 0, .int .i64 0, .slice vb m vd, .int .u32 y.const, .int .i64 0] 33)).drew.cell? ((⟨w2.heap.size, 0, none⟩ : Addr).add j) = some u) := cells_new w2 #[.int .i64 6, .string ⟨#[]⟩, .int .i64 0, .int .i64 0, .int .i64 0, .int .i32 0, .int .i64 0, .slice vb m vd, .int .u32 y.const, .int .i64 0] 33
    have hsz2 := blk_lt hS2.out.blk
    have hownH : Hid ((w2.alloc (.cells #[.int .i64 6, .string ⟨#[]⟩, .int .i64 0, .int .i64 0, .int .i64 0, .int .i32 0, .int .i64 0, .slice vb m vd, .int .u32 y.const, .int .i64 0] 33)).drew.ownsRow (b + 1) 33 10 (.slice a1 L c1) L (rowI p)) := by
     have := (hS2.out.below ((below_alloc w2 (.cells #[.int .i64 6, .string ⟨#[]⟩, .int .i64 0, .int .i64 0, .int .i64 0, .int .i32 0, .int .i64 0, .slice vb m vd, .int .u32 y.const, .int .i64 0] 33)).drew)).own.row
     rw [<- hS2.out.len] at this
     exact this
    go_wp2
    all_goals first | omega | skip
    go_region_law (refine step_item _ rfl (.tmp 47) (.tmp 49) rfl (b + 1) a1 L c1 p rfl hownH.out w2.heap.size ({ itmE with kind := 6, e := y }) vb m vd rfl cnH.out (by omega) (by simp; omega) ?_; intro a3 c3 w3 ho3 hg3; obtain ⟨hpf, hb3⟩ := hS2.out.push ((below_alloc w2 _).drew) hargH.out (q := ({ itmE with kind := 6, e := y }, Value.slice vb m vd)) hR1H.out hQ.out ho3 hg3; replace hpf := Hid.intro hpf; have u1 := (cell_blockT hb3 1).trans rfl; have uf := frozen_of_row w3 b 1 _ 124 hb3; clear hb3)
    all_goals clear u1 uf y0 y1 y2 y3 y4 y5 y6 y7 y8 y9 z1 zA1
    all_goals go_wp2_with fail
    all_goals go_roundw
    all_goals first
     | exact ⟨i + 1, _, _, _, _, by omega, by go_num, hpf⟩
     | (simp [intOf]; omega)
  ·have hin : i = n0 := by omega
   have hfin : Hid (R0 = .ok (p.map (·.1))) := hS.out.fin (by rw [<- hn0.out]; omega)
   subst hin
   have hlt3 : ¬ ((i : Int) < (i : Int)) := by omega
   go_wp2
   all_goals first | omega | skip
   go_ret
   rw [hfin.out]
   exact ⟨hS.out.bel, rfl, p, a1, L, c1, rfl, hS.out.blk, hS.out.own⟩
end Go.Proofs.YtlkmegchaeokgaaGreatDoor
/- item's Read, by one more reader. -/
namespace Go.Proofs.YtlkmegchaeokgaaGreatDoor
open Go.ChangeShapes Go.WideShapes Go.ChangeAt Go.RowKit
set_option linter.unusedVariables false
set_option maxRecDepth 100000
set_option maxHeartbeats 1000000 in
theorem readLen_several (lb s : List UInt8) (hs0 : s ≠ []) (a : Option Addr) (c : Nat) (n0 : Nat) (hal : n0 <= 1100000) (sec : Int) (w : World) (least most : Int) (hbad : (n0 : Int) < least ∨ most < (n0 : Int)) (RB : World -> Nat -> Prop)
  (hro0 : ∀ w1, Below w.heap.size w w1 -> Calls Tryz.prog 42 #[.string (str s)] w1 fun e w2 => Below w1.heap.size w1 w2 /\ ∃ b, w1.heap.size <= b /\ e = .returned (.tuple #[.iface 122 (.pointer (some ⟨b, 0, none⟩)), .int .i64 least, .int .i64 most]) /\ (b < w2.heap.size /\ RB w2 b)) :
  Calls Tryz.prog 17 #[.agg #[.string (str lb), .string (str s), .slice a n0 c], .int .i64 sec] w fun e w' => Below w.heap.size w w' /\ ThOut w' (.error 20) e := by
 have hne : ((str s).toList == []) = false := by rw [str_toList]; exact beq_false_of_ne hs0
 have hnl : ∀ a w, (binOp .eql 89 (.iface 122 (.pointer (some a))) .nilIface).run Tryz.prog w = .ok (.bool false) w := nil_122
 have hro := Hid.intro (hro0 (rdW w lb s a n0 c) (rdW_below w lb s a n0 c))
 clear hro0
 by_cases hl : (n0 : Int) < least
 ·clear hbad
  go_enter Tryz.func17, Tryz.ntmps17
  go_wp2_with (go_at_call 42; (with_reducible refine (hro.out).mono ?_); rintro e w1 ⟨hb1, b, hb, rfl, hO⟩; have hs1 := hb1.size; replace hO := Hid.intro hO; obtain ⟨l1, l2, hr1⟩ := ro_facts hb1; obtain ⟨rc0, rc1, rc2, rc3, rc4, rc5⟩ := six_read hr1; have rf := fun j => frozen_of_row w1 (w.heap.size + 1) j _ 37 hr1; replace hr1 := Hid.intro hr1)
  all_goals first | omega | skip
  obtain ⟨hw1, hw2⟩ := ro_wide hb1
  obtain ⟨s1, s2⟩ := six_set hr1.out (.int .i64 0) (.slice none 0 0) (.string ⟨#[]⟩) (.slice none 0 0) (.int .u32 0) (.int .i64 0)
  have hB9 := (hw1).grown s2 (by omega) (fun j hj => by cases hj; omega)
  generalize ((((((w1.setCell ⟨w.heap.size + 1, 0, none⟩ (.int .i64 0)).setCell ⟨w.heap.size + 1, 1, none⟩ (.slice none 0 0)).setCell ⟨w.heap.size + 1, 2, none⟩ (.string ⟨#[]⟩)).setCell ⟨w.heap.size + 1, 3, none⟩ (.slice none 0 0)).setCell ⟨w.heap.size + 1, 4, none⟩ (.int .u32 0)).setCell ⟨w.heap.size + 1, 5, none⟩ (.int .i64 0)) = w9 at s1 s2 hB9 ⊢
  obtain ⟨k0, k1, k2, k3, k4, k5⟩ := thing_ret (w8 := w9) s1
  refine bodyPost_ret (by simp [results, Tryz.results17, go_sem, k0, k1, k2, k3, k4, k5]; try rfl) rfl ?_
  exact ⟨hB9, rfl⟩
 ·have hl2 : most < (n0 : Int) := by omega
  clear hbad
  go_enter Tryz.func17, Tryz.ntmps17
  go_wp2_with (go_at_call 42; (with_reducible refine (hro.out).mono ?_); rintro e w1 ⟨hb1, b, hb, rfl, hO⟩; have hs1 := hb1.size; replace hO := Hid.intro hO; obtain ⟨l1, l2, hr1⟩ := ro_facts hb1; obtain ⟨rc0, rc1, rc2, rc3, rc4, rc5⟩ := six_read hr1; have rf := fun j => frozen_of_row w1 (w.heap.size + 1) j _ 37 hr1; replace hr1 := Hid.intro hr1)
  all_goals first | omega | skip
  obtain ⟨hw1, hw2⟩ := ro_wide hb1
  obtain ⟨s1, s2⟩ := six_set hr1.out (.int .i64 0) (.slice none 0 0) (.string ⟨#[]⟩) (.slice none 0 0) (.int .u32 0) (.int .i64 0)
  have hB9 := (hw1).grown s2 (by omega) (fun j hj => by cases hj; omega)
  generalize ((((((w1.setCell ⟨w.heap.size + 1, 0, none⟩ (.int .i64 0)).setCell ⟨w.heap.size + 1, 1, none⟩ (.slice none 0 0)).setCell ⟨w.heap.size + 1, 2, none⟩ (.string ⟨#[]⟩)).setCell ⟨w.heap.size + 1, 3, none⟩ (.slice none 0 0)).setCell ⟨w.heap.size + 1, 4, none⟩ (.int .u32 0)).setCell ⟨w.heap.size + 1, 5, none⟩ (.int .i64 0)) = w9 at s1 s2 hB9 ⊢
  obtain ⟨k0, k1, k2, k3, k4, k5⟩ := thing_ret (w8 := w9) s1
  refine bodyPost_ret (by simp [results, Tryz.results17, go_sem, k0, k1, k2, k3, k4, k5]; try rfl) rfl ?_
  exact ⟨hB9, rfl⟩
set_option maxHeartbeats 2000000 in
theorem readG_several (lb s : List UInt8) (hs0 : s ≠ []) (a : Option Addr) (c : Nat) (n0 : Nat) (hal : n0 <= 1100000) (sec : Int) (w : World) (least most : Int) (hlo : ¬ (n0 : Int) < least) (hhi : ¬ most < (n0 : Int)) (RB : World -> Nat -> Prop) (RD : Thg -> World -> Nat -> Prop) (R : Except Int Thg)
  (hro0 : ∀ w1, Below w.heap.size w w1 -> Calls Tryz.prog 42 #[.string (str s)] w1 fun e w2 => Below w1.heap.size w1 w2 /\ ∃ b, w1.heap.size <= b /\ e = .returned (.tuple #[.iface 122 (.pointer (some ⟨b, 0, none⟩)), .int .i64 least, .int .i64 most]) /\ (b < w2.heap.size /\ RB w2 b))
  (hrd0 : ∀ w1 b, Below w.heap.size w w1 -> w.heap.size + 2 <= b -> b < w1.heap.size -> RB w1 b -> Calls Tryz.prog 159 #[.pointer (some ⟨b, 0, none⟩), .slice a n0 c] w1 fun e w2 => Below b w1 w2 /\ RdOut R RD e w2 b)
  (hsd0 : ∀ t w1 b, RD t w1 b -> Calls Tryz.prog 43 #[.iface 122 (.pointer (some ⟨b, 0, none⟩))] w1 fun e w2 => Below w1.heap.size w1 w2 /\ ∃ ai ni ci va n vc, e = .returned (thgV t.kind (.slice ai ni ci) t.name (.slice va n vc) t.e.const t.sec) /\ ItemsLie w2 (.slice ai ni ci) t.items /\ n = t.e.terms.length /\ TmLies w2 va t.e.terms)
  (hk : ∀ k, R = .error k -> k ≠ 0) (hmany : ∀ t, R = .ok t -> t.items.length <= 1100000) :
  Calls Tryz.prog 17 #[.agg #[.string (str lb), .string (str s), .slice a n0 c], .int .i64 sec] w fun e w' => Below w.heap.size w w' /\ ThOut w' (andStands R sec) e := by
 have hne : ((str s).toList == []) = false := by rw [str_toList]; exact beq_false_of_ne hs0
 have hnl : ∀ a w, (binOp .eql 89 (.iface 122 (.pointer (some a))) .nilIface).run Tryz.prog w = .ok (.bool false) w := nil_122
 have hro := Hid.intro (hro0 (rdW w lb s a n0 c) (rdW_below w lb s a n0 c))
 clear hro0
 cases R with
 | error k =>
  have hk0 : (k == 0) = false := by have := hk k rfl; simpa using this
  have hrd : Hid (∀ w1, Below (rdW w lb s a n0 c).heap.size (rdW w lb s a n0 c) w1 -> ∀ b, (rdW w lb s a n0 c).heap.size <= b -> (b < w1.heap.size /\ RB w1 b) -> Calls Tryz.prog 159 #[.pointer (some ⟨b, 0, none⟩), .slice a n0 c] w1 fun e w2 => e = .returned (.int .i64 k) /\ Below b w1 w2 /\ True) := fun w1 h1 b hb hO => by
   obtain ⟨hw1, hw2⟩ := ro_wide h1
   refine (hrd0 w1 b hw1 (by rw [rdW_size] at hb; exact hb) hO.1 hO.2).mono ?_
   rintro e w2 ⟨h1, h2⟩
   exact ⟨h2, h1, trivial⟩
  clear hrd0 hsd0 hk hmany
  rw [show andStands (.error k) sec = .error k from rfl]
  go_enter Tryz.func17, Tryz.ntmps17
  go_wp2_with (first | (go_at_call 42; (with_reducible refine (hro.out).mono ?_); rintro e w1 ⟨hb1, b, hb, rfl, hO⟩; have hs1 := hb1.size; replace hO := Hid.intro hO; obtain ⟨l1, l2, hr1⟩ := ro_facts hb1; obtain ⟨rc0, rc1, rc2, rc3, rc4, rc5⟩ := six_read hr1; have rf := fun j => frozen_of_row w1 (w.heap.size + 1) j _ 37 hr1; replace hr1 := Hid.intro hr1) | (go_at_call 159; (with_reducible refine (hrd.out w1 hb1 b hb hO.out).mono ?_); rintro e w2 ⟨rfl, hb2, hO2⟩; have hs2 := hb2.size; have hr2 : w2.heap[w.heap.size + 1]? = some (.cells zero6 37 (0, 0)) := (by rw [hb2.block _ (by rw [rdW_size] at hb; omega)]; exact hr1.out); obtain ⟨rd0, rd1, rd2, rd3, rd4, rd5⟩ := six_read hr2; have rg := fun j => frozen_of_row w2 (w.heap.size + 1) j _ 37 hr2; replace hr2 := Hid.intro hr2; replace hO2 := Hid.intro hO2))
  all_goals first | omega | skip
  obtain ⟨hw1, hw2⟩ := ro_wide hb1
  have hw3 : Below w.heap.size w w2 := hw1.trans (hb2.mono (by rw [rdW_size] at hb; omega))
  obtain ⟨s1, s2⟩ := six_set hr2.out (.int .i64 0) (.slice none 0 0) (.string ⟨#[]⟩) (.slice none 0 0) (.int .u32 0) (.int .i64 0)
  have hB9 := (hw3).grown s2 (by omega) (fun j hj => by cases hj; omega)
  generalize ((((((w2.setCell ⟨w.heap.size + 1, 0, none⟩ (.int .i64 0)).setCell ⟨w.heap.size + 1, 1, none⟩ (.slice none 0 0)).setCell ⟨w.heap.size + 1, 2, none⟩ (.string ⟨#[]⟩)).setCell ⟨w.heap.size + 1, 3, none⟩ (.slice none 0 0)).setCell ⟨w.heap.size + 1, 4, none⟩ (.int .u32 0)).setCell ⟨w.heap.size + 1, 5, none⟩ (.int .i64 0)) = w9 at s1 s2 hB9 ⊢
  obtain ⟨k0, k1, k2, k3, k4, k5⟩ := thing_ret (w8 := w9) s1
  refine bodyPost_ret (by simp [results, Tryz.results17, go_sem, k0, k1, k2, k3, k4, k5]; try rfl) rfl ?_
  exact ⟨hB9, rfl⟩
 | ok t =>
  have hrd : Hid (∀ w1, Below (rdW w lb s a n0 c).heap.size (rdW w lb s a n0 c) w1 -> ∀ b, (rdW w lb s a n0 c).heap.size <= b -> (b < w1.heap.size /\ RB w1 b) -> Calls Tryz.prog 159 #[.pointer (some ⟨b, 0, none⟩), .slice a n0 c] w1 fun e w2 => e = .returned (.int .i64 0) /\ Below b w1 w2 /\ RD t w2 b) := fun w1 h1 b hb hO => by
   obtain ⟨hw1, hw2⟩ := ro_wide h1
   refine (hrd0 w1 b hw1 (by rw [rdW_size] at hb; exact hb) hO.1 hO.2).mono ?_
   rintro e w2 ⟨h1, h2⟩
   exact ⟨h2.1, h1, h2.2⟩
  have hsd := Hid.intro hsd0
  have hmanyH := Hid.intro (hmany t rfl)
  clear hrd0 hsd0 hk hmany
  rw [show andStands (.ok t) sec = standsT t sec from rfl]
  go_enter Tryz.func17, Tryz.ntmps17
  go_upto_region 10 with (first | (go_at_call 42; (with_reducible refine (hro.out).mono ?_); rintro e w1 ⟨hb1, b, hb, rfl, hO⟩; have hs1 := hb1.size; replace hO := Hid.intro hO; obtain ⟨l1, l2, hr1⟩ := ro_facts hb1; obtain ⟨rc0, rc1, rc2, rc3, rc4, rc5⟩ := six_read hr1; have rf := fun j => frozen_of_row w1 (w.heap.size + 1) j _ 37 hr1; replace hr1 := Hid.intro hr1) | (go_at_call 159; (with_reducible refine (hrd.out w1 hb1 b hb hO.out).mono ?_); rintro e w2 ⟨rfl, hb2, hO2⟩; have hs2 := hb2.size; have hr2 : w2.heap[w.heap.size + 1]? = some (.cells zero6 37 (0, 0)) := (by rw [hb2.block _ (by rw [rdW_size] at hb; omega)]; exact hr1.out); obtain ⟨rd0, rd1, rd2, rd3, rd4, rd5⟩ := six_read hr2; have rg := fun j => frozen_of_row w2 (w.heap.size + 1) j _ 37 hr2; replace hr2 := Hid.intro hr2; replace hO2 := Hid.intro hO2) | (go_at_call 43; (with_reducible refine (hsd.out t w2 b hO2.out).mono ?_); rintro e w3 ⟨hb3, ai, ni, ci, va, n, vc, rfl, hit, hn, htm⟩; replace hit := Hid.intro hit; replace htm := Hid.intro htm; replace hn := Hid.intro hn))
  all_goals first | omega | skip
  obtain ⟨hw1, hw2⟩ := ro_wide hb1
  have hbb : w.heap.size + 2 <= b := by rw [rdW_size] at hb; exact hb
  have hOlt := hO.out.1
  have hs3 := hb3.size
  have hB3 : Below w.heap.size w w3 := (hw1.trans (hb2.mono (by omega))).trans (hb3.mono (by omega))
  have hS : RStG w t ai ni ci va n vc w3.heap.size (w3.alloc (.cells #[.int .i64 t.kind, .slice ai ni ci, .string (str t.name), .slice va n vc, .int .u32 t.e.const, .int .i64 t.sec] 37)) :=
   ⟨hB3.alloc hB3.size _, by rw [Below.heap_alloc _ _ _ (by omega), hb3.block _ (by omega)]; exact hr2.out, heap_alloc_new w3 _, hit.out.below (below_alloc w3 _), htm.out.below (below_alloc w3 _) (Nat.le_refl _)⟩
  generalize hp : w3.heap.size = p at hS ⊢
  generalize (w3.alloc (.cells #[.int .i64 t.kind, .slice ai ni ci, .string (str t.name), .slice va n vc, .int .u32 t.e.const, .int .i64 t.sec] 37)) = w4 at hS ⊢
  have hni := Hid.intro (lie_len hit.out)
  have hnim : ni <= 1100000 := by rw [hni.out]; exact hmanyH.out
  clear rd0 rd1 rd2 rd3 rd4 rd5 rg rc0 rc1 rc2 rc3 rc4 rc5 rf l1 l2 hr1 hr2 hb3 hb2 hb1 hO hO2 hro hrd hsd hp hB3 hit htm
  replace hS := Hid.intro hS
  have t1 := (cell_blockT hS.out.thing 1).trans rfl
  go_wp2
  all_goals first | omega | skip
  clear t1
  go_loopw [54] (fun v54 wr => ∃ i : Nat, i <= ni /\ v54 = .int .i64 (i : Int) /\ Hid (((t.items.take i).all fun y => standsB y.kind sec) = true) /\ Hid (RStG w t ai ni ci va n vc p wr)) (fun v54 wr => ni - (intOf v54).toNat)
  case atStart => exact ⟨0, by omega, rfl, (by show _ = _; simp), hS⟩
  case round =>
   clear hS
   obtain ⟨i, hi, rfl, hall, hS⟩ := hrel
   by_cases hlt : i < ni
   ·obtain ⟨x, hx⟩ : ∃ x, t.items[i]? = some x := ⟨t.items[i]'(by rw [<- hni.out]; exact hlt), List.getElem?_eq_getElem _⟩
    obtain ⟨q, rfl, hq, xa, xn, xc, hI⟩ := lie_at hS.out.items hx
    obtain ⟨c0, c1, c2, c3, c4, c5, c6, c7, c8, c9⟩ := hI
    have hlt2 : (i : Int) < (ni : Int) := by omega
    have hst := Hid.intro (fun w1 => stands_any x.kind sec w1)
    have hal2 := Hid.intro (fun o => hS.out.below (below_alloc wr o))
    have r0 := fun o => (cell_blockT (hal2.out o).res 0).trans rfl
    have r1 := fun o => (cell_blockT (hal2.out o).res 1).trans rfl
    have r2 := fun o => (cell_blockT (hal2.out o).res 2).trans rfl
    have r3 := fun o => (cell_blockT (hal2.out o).res 3).trans rfl
    have r4 := fun o => (cell_blockT (hal2.out o).res 4).trans rfl
    have r5 := fun o => (cell_blockT (hal2.out o).res 5).trans rfl
    have rf := fun o j => frozen_of_row (wr.alloc o) (w.heap.size + 1) j _ 37 (hal2.out o).res
    cases hsb : standsB x.kind sec
    ·rw [hsb] at hst
     have hbadH := Hid.intro (stands_bad hx hsb)
     clear hx hsb
     go_wp2_with (go_at_call 23; (with_reducible refine (hst.out _).mono ?_); rintro e w5 ⟨rfl, rfl⟩)
     all_goals first | omega | skip
     have hal3 := hal2.out (.cells (itmCells x (.slice xa xn xc)) 33)
     have hbs := hal3.bel.size
     obtain ⟨s1, s2⟩ := six_set hal3.res (.int .i64 0) (.slice none 0 0) (.string ⟨#[]⟩) (.slice none 0 0) (.int .u32 0) (.int .i64 0)
     have hB9 := (hal3.bel).grown s2 (by omega) (fun j hj => by cases hj; omega)
     generalize (((((((wr.alloc (.cells (itmCells x (.slice xa xn xc)) 33)).setCell ⟨w.heap.size + 1, 0, none⟩ (.int .i64 0)).setCell ⟨w.heap.size + 1, 1, none⟩ (.slice none 0 0)).setCell ⟨w.heap.size + 1, 2, none⟩ (.string ⟨#[]⟩)).setCell ⟨w.heap.size + 1, 3, none⟩ (.slice none 0 0)).setCell ⟨w.heap.size + 1, 4, none⟩ (.int .u32 0)).setCell ⟨w.heap.size + 1, 5, none⟩ (.int .i64 0)) = w9 at s1 s2 hB9 ⊢
     obtain ⟨k0, k1, k2, k3, k4, k5⟩ := thing_ret (w8 := w9) s1
     refine bodyPost_ret (by simp [results, Tryz.results17, go_sem, k0, k1, k2, k3, k4, k5]; try rfl) rfl ?_
     rw [hbadH.out]
     exact ⟨hB9, rfl⟩
    ·rw [hsb] at hst
     have hnext : Hid (((t.items.take (i + 1)).all fun y => standsB y.kind sec) = true) := (by show _ = _; rw [stands_take hx, hall.out, hsb]; rfl)
     clear hx hsb
     go_wp2_with (go_at_call 23; (with_reducible refine (hst.out _).mono ?_); rintro e w5 ⟨rfl, rfl⟩)
     all_goals first | omega | skip
     go_roundw
     case rel => exact ⟨i + 1, by omega, by go_num, hnext, Hid.intro (hal2.out _)⟩
     case measure => simp [intOf]; omega
   ·have hin : i = ni := by omega
    have hokH : Hid (standsT t sec = .ok t) := stands_all (by rw [<- hni.out]; omega) hall.out
    subst hin
    have hlt3 : ¬ ((i : Int) < (i : Int)) := by omega
    obtain ⟨t0, t1, t2, t3, t4, t5⟩ := six_read hS.out.thing
    obtain ⟨r0, r1, r2, r3, r4, r5⟩ := six_read hS.out.res
    have rf := fun j => frozen_of_row wr (w.heap.size + 1) j _ 37 hS.out.res
    go_wp2
    all_goals first | omega | skip
    obtain ⟨s1, s2⟩ := six_set hS.out.res (.int .i64 t.kind) (.slice ai i ci) (.string (str t.name)) (.slice va n vc) (.int .u32 t.e.const) (.int .i64 t.sec)
    have hbs := hS.out.bel.size
    have hB9 := (hS.out.bel).grown s2 (by omega) (fun j hj => by cases hj; omega)
    have hit9 := items_res hS.out.items hS.out.res s2
    have htm9 := tmLies_res hS.out.terms hS.out.res s2
    generalize ((((((wr.setCell ⟨w.heap.size + 1, 0, none⟩ (.int .i64 t.kind)).setCell ⟨w.heap.size + 1, 1, none⟩ (.slice ai i ci)).setCell ⟨w.heap.size + 1, 2, none⟩ (.string (str t.name))).setCell ⟨w.heap.size + 1, 3, none⟩ (.slice va n vc)).setCell ⟨w.heap.size + 1, 4, none⟩ (.int .u32 t.e.const)).setCell ⟨w.heap.size + 1, 5, none⟩ (.int .i64 t.sec)) = w9 at s1 s2 hB9 hit9 htm9 ⊢
    obtain ⟨k0, k1, k2, k3, k4, k5⟩ := thing_ret (w8 := w9) s1
    refine bodyPost_ret (by simp [results, Tryz.results17, go_sem, k0, k1, k2, k3, k4, k5]; try rfl) rfl ?_
    rw [hokH.out]
    exact ⟨hB9, .slice ai i ci, va, n, vc, rfl, hit9, hn.out, htm9⟩
end Go.Proofs.YtlkmegchaeokgaaGreatDoor
/- item's Read, by one more reader. -/
namespace Go.Proofs.YtlkmegchaeokgaaGreatDoor
open Go.ChangeShapes Go.WideShapes Go.ChangeAt Go.RowKit
set_option linter.unusedVariables false
set_option maxRecDepth 100000
set_option maxHeartbeats 1000000 in
theorem readLen_equation (lb s : List UInt8) (hs0 : s ≠ []) (a : Option Addr) (c : Nat) (n0 : Nat) (hal : n0 <= 1100000) (sec : Int) (w : World) (least most : Int) (hbad : (n0 : Int) < least ∨ most < (n0 : Int)) (RB : World -> Nat -> Prop)
  (hro0 : ∀ w1, Below w.heap.size w w1 -> Calls Tryz.prog 42 #[.string (str s)] w1 fun e w2 => Below w1.heap.size w1 w2 /\ ∃ b, w1.heap.size <= b /\ e = .returned (.tuple #[.iface 125 (.pointer (some ⟨b, 0, none⟩)), .int .i64 least, .int .i64 most]) /\ (b < w2.heap.size /\ RB w2 b)) :
  Calls Tryz.prog 17 #[.agg #[.string (str lb), .string (str s), .slice a n0 c], .int .i64 sec] w fun e w' => Below w.heap.size w w' /\ ThOut w' (.error 20) e := by
 have hne : ((str s).toList == []) = false := by rw [str_toList]; exact beq_false_of_ne hs0
 have hnl : ∀ a w, (binOp .eql 89 (.iface 125 (.pointer (some a))) .nilIface).run Tryz.prog w = .ok (.bool false) w := nil_125
 have hro := Hid.intro (hro0 (rdW w lb s a n0 c) (rdW_below w lb s a n0 c))
 clear hro0
 by_cases hl : (n0 : Int) < least
 ·clear hbad
  go_enter Tryz.func17, Tryz.ntmps17
  go_wp2_with (go_at_call 42; (with_reducible refine (hro.out).mono ?_); rintro e w1 ⟨hb1, b, hb, rfl, hO⟩; have hs1 := hb1.size; replace hO := Hid.intro hO; obtain ⟨l1, l2, hr1⟩ := ro_facts hb1; obtain ⟨rc0, rc1, rc2, rc3, rc4, rc5⟩ := six_read hr1; have rf := fun j => frozen_of_row w1 (w.heap.size + 1) j _ 37 hr1; replace hr1 := Hid.intro hr1)
  all_goals first | omega | skip
  obtain ⟨hw1, hw2⟩ := ro_wide hb1
  obtain ⟨s1, s2⟩ := six_set hr1.out (.int .i64 0) (.slice none 0 0) (.string ⟨#[]⟩) (.slice none 0 0) (.int .u32 0) (.int .i64 0)
  have hB9 := (hw1).grown s2 (by omega) (fun j hj => by cases hj; omega)
  generalize ((((((w1.setCell ⟨w.heap.size + 1, 0, none⟩ (.int .i64 0)).setCell ⟨w.heap.size + 1, 1, none⟩ (.slice none 0 0)).setCell ⟨w.heap.size + 1, 2, none⟩ (.string ⟨#[]⟩)).setCell ⟨w.heap.size + 1, 3, none⟩ (.slice none 0 0)).setCell ⟨w.heap.size + 1, 4, none⟩ (.int .u32 0)).setCell ⟨w.heap.size + 1, 5, none⟩ (.int .i64 0)) = w9 at s1 s2 hB9 ⊢
  obtain ⟨k0, k1, k2, k3, k4, k5⟩ := thing_ret (w8 := w9) s1
  refine bodyPost_ret (by simp [results, Tryz.results17, go_sem, k0, k1, k2, k3, k4, k5]; try rfl) rfl ?_
  exact ⟨hB9, rfl⟩
 ·have hl2 : most < (n0 : Int) := by omega
  clear hbad
  go_enter Tryz.func17, Tryz.ntmps17
  go_wp2_with (go_at_call 42; (with_reducible refine (hro.out).mono ?_); rintro e w1 ⟨hb1, b, hb, rfl, hO⟩; have hs1 := hb1.size; replace hO := Hid.intro hO; obtain ⟨l1, l2, hr1⟩ := ro_facts hb1; obtain ⟨rc0, rc1, rc2, rc3, rc4, rc5⟩ := six_read hr1; have rf := fun j => frozen_of_row w1 (w.heap.size + 1) j _ 37 hr1; replace hr1 := Hid.intro hr1)
  all_goals first | omega | skip
  obtain ⟨hw1, hw2⟩ := ro_wide hb1
  obtain ⟨s1, s2⟩ := six_set hr1.out (.int .i64 0) (.slice none 0 0) (.string ⟨#[]⟩) (.slice none 0 0) (.int .u32 0) (.int .i64 0)
  have hB9 := (hw1).grown s2 (by omega) (fun j hj => by cases hj; omega)
  generalize ((((((w1.setCell ⟨w.heap.size + 1, 0, none⟩ (.int .i64 0)).setCell ⟨w.heap.size + 1, 1, none⟩ (.slice none 0 0)).setCell ⟨w.heap.size + 1, 2, none⟩ (.string ⟨#[]⟩)).setCell ⟨w.heap.size + 1, 3, none⟩ (.slice none 0 0)).setCell ⟨w.heap.size + 1, 4, none⟩ (.int .u32 0)).setCell ⟨w.heap.size + 1, 5, none⟩ (.int .i64 0)) = w9 at s1 s2 hB9 ⊢
  obtain ⟨k0, k1, k2, k3, k4, k5⟩ := thing_ret (w8 := w9) s1
  refine bodyPost_ret (by simp [results, Tryz.results17, go_sem, k0, k1, k2, k3, k4, k5]; try rfl) rfl ?_
  exact ⟨hB9, rfl⟩
set_option maxHeartbeats 2000000 in
theorem readG_equation (lb s : List UInt8) (hs0 : s ≠ []) (a : Option Addr) (c : Nat) (n0 : Nat) (hal : n0 <= 1100000) (sec : Int) (w : World) (least most : Int) (hlo : ¬ (n0 : Int) < least) (hhi : ¬ most < (n0 : Int)) (RB : World -> Nat -> Prop) (RD : Thg -> World -> Nat -> Prop) (R : Except Int Thg)
  (hro0 : ∀ w1, Below w.heap.size w w1 -> Calls Tryz.prog 42 #[.string (str s)] w1 fun e w2 => Below w1.heap.size w1 w2 /\ ∃ b, w1.heap.size <= b /\ e = .returned (.tuple #[.iface 125 (.pointer (some ⟨b, 0, none⟩)), .int .i64 least, .int .i64 most]) /\ (b < w2.heap.size /\ RB w2 b))
  (hrd0 : ∀ w1 b, Below w.heap.size w w1 -> w.heap.size + 2 <= b -> b < w1.heap.size -> RB w1 b -> Calls Tryz.prog 160 #[.pointer (some ⟨b, 0, none⟩), .slice a n0 c] w1 fun e w2 => Below b w1 w2 /\ RdOut R RD e w2 b)
  (hsd0 : ∀ t w1 b, RD t w1 b -> Calls Tryz.prog 43 #[.iface 125 (.pointer (some ⟨b, 0, none⟩))] w1 fun e w2 => Below w1.heap.size w1 w2 /\ ∃ ai ni ci va n vc, e = .returned (thgV t.kind (.slice ai ni ci) t.name (.slice va n vc) t.e.const t.sec) /\ ItemsLie w2 (.slice ai ni ci) t.items /\ n = t.e.terms.length /\ TmLies w2 va t.e.terms)
  (hk : ∀ k, R = .error k -> k ≠ 0) (hmany : ∀ t, R = .ok t -> t.items.length <= 1100000) :
  Calls Tryz.prog 17 #[.agg #[.string (str lb), .string (str s), .slice a n0 c], .int .i64 sec] w fun e w' => Below w.heap.size w w' /\ ThOut w' (andStands R sec) e := by
 have hne : ((str s).toList == []) = false := by rw [str_toList]; exact beq_false_of_ne hs0
 have hnl : ∀ a w, (binOp .eql 89 (.iface 125 (.pointer (some a))) .nilIface).run Tryz.prog w = .ok (.bool false) w := nil_125
 have hro := Hid.intro (hro0 (rdW w lb s a n0 c) (rdW_below w lb s a n0 c))
 clear hro0
 cases R with
 | error k =>
  have hk0 : (k == 0) = false := by have := hk k rfl; simpa using this
  have hrd : Hid (∀ w1, Below (rdW w lb s a n0 c).heap.size (rdW w lb s a n0 c) w1 -> ∀ b, (rdW w lb s a n0 c).heap.size <= b -> (b < w1.heap.size /\ RB w1 b) -> Calls Tryz.prog 160 #[.pointer (some ⟨b, 0, none⟩), .slice a n0 c] w1 fun e w2 => e = .returned (.int .i64 k) /\ Below b w1 w2 /\ True) := fun w1 h1 b hb hO => by
   obtain ⟨hw1, hw2⟩ := ro_wide h1
   refine (hrd0 w1 b hw1 (by rw [rdW_size] at hb; exact hb) hO.1 hO.2).mono ?_
   rintro e w2 ⟨h1, h2⟩
   exact ⟨h2, h1, trivial⟩
  clear hrd0 hsd0 hk hmany
  rw [show andStands (.error k) sec = .error k from rfl]
  go_enter Tryz.func17, Tryz.ntmps17
  go_wp2_with (first | (go_at_call 42; (with_reducible refine (hro.out).mono ?_); rintro e w1 ⟨hb1, b, hb, rfl, hO⟩; have hs1 := hb1.size; replace hO := Hid.intro hO; obtain ⟨l1, l2, hr1⟩ := ro_facts hb1; obtain ⟨rc0, rc1, rc2, rc3, rc4, rc5⟩ := six_read hr1; have rf := fun j => frozen_of_row w1 (w.heap.size + 1) j _ 37 hr1; replace hr1 := Hid.intro hr1) | (go_at_call 160; (with_reducible refine (hrd.out w1 hb1 b hb hO.out).mono ?_); rintro e w2 ⟨rfl, hb2, hO2⟩; have hs2 := hb2.size; have hr2 : w2.heap[w.heap.size + 1]? = some (.cells zero6 37 (0, 0)) := (by rw [hb2.block _ (by rw [rdW_size] at hb; omega)]; exact hr1.out); obtain ⟨rd0, rd1, rd2, rd3, rd4, rd5⟩ := six_read hr2; have rg := fun j => frozen_of_row w2 (w.heap.size + 1) j _ 37 hr2; replace hr2 := Hid.intro hr2; replace hO2 := Hid.intro hO2))
  all_goals first | omega | skip
  obtain ⟨hw1, hw2⟩ := ro_wide hb1
  have hw3 : Below w.heap.size w w2 := hw1.trans (hb2.mono (by rw [rdW_size] at hb; omega))
  obtain ⟨s1, s2⟩ := six_set hr2.out (.int .i64 0) (.slice none 0 0) (.string ⟨#[]⟩) (.slice none 0 0) (.int .u32 0) (.int .i64 0)
  have hB9 := (hw3).grown s2 (by omega) (fun j hj => by cases hj; omega)
  generalize ((((((w2.setCell ⟨w.heap.size + 1, 0, none⟩ (.int .i64 0)).setCell ⟨w.heap.size + 1, 1, none⟩ (.slice none 0 0)).setCell ⟨w.heap.size + 1, 2, none⟩ (.string ⟨#[]⟩)).setCell ⟨w.heap.size + 1, 3, none⟩ (.slice none 0 0)).setCell ⟨w.heap.size + 1, 4, none⟩ (.int .u32 0)).setCell ⟨w.heap.size + 1, 5, none⟩ (.int .i64 0)) = w9 at s1 s2 hB9 ⊢
  obtain ⟨k0, k1, k2, k3, k4, k5⟩ := thing_ret (w8 := w9) s1
  refine bodyPost_ret (by simp [results, Tryz.results17, go_sem, k0, k1, k2, k3, k4, k5]; try rfl) rfl ?_
  exact ⟨hB9, rfl⟩
 | ok t =>
  have hrd : Hid (∀ w1, Below (rdW w lb s a n0 c).heap.size (rdW w lb s a n0 c) w1 -> ∀ b, (rdW w lb s a n0 c).heap.size <= b -> (b < w1.heap.size /\ RB w1 b) -> Calls Tryz.prog 160 #[.pointer (some ⟨b, 0, none⟩), .slice a n0 c] w1 fun e w2 => e = .returned (.int .i64 0) /\ Below b w1 w2 /\ RD t w2 b) := fun w1 h1 b hb hO => by
   obtain ⟨hw1, hw2⟩ := ro_wide h1
   refine (hrd0 w1 b hw1 (by rw [rdW_size] at hb; exact hb) hO.1 hO.2).mono ?_
   rintro e w2 ⟨h1, h2⟩
   exact ⟨h2.1, h1, h2.2⟩
  have hsd := Hid.intro hsd0
  have hmanyH := Hid.intro (hmany t rfl)
  clear hrd0 hsd0 hk hmany
  rw [show andStands (.ok t) sec = standsT t sec from rfl]
  go_enter Tryz.func17, Tryz.ntmps17
  go_upto_region 10 with (first | (go_at_call 42; (with_reducible refine (hro.out).mono ?_); rintro e w1 ⟨hb1, b, hb, rfl, hO⟩; have hs1 := hb1.size; replace hO := Hid.intro hO; obtain ⟨l1, l2, hr1⟩ := ro_facts hb1; obtain ⟨rc0, rc1, rc2, rc3, rc4, rc5⟩ := six_read hr1; have rf := fun j => frozen_of_row w1 (w.heap.size + 1) j _ 37 hr1; replace hr1 := Hid.intro hr1) | (go_at_call 160; (with_reducible refine (hrd.out w1 hb1 b hb hO.out).mono ?_); rintro e w2 ⟨rfl, hb2, hO2⟩; have hs2 := hb2.size; have hr2 : w2.heap[w.heap.size + 1]? = some (.cells zero6 37 (0, 0)) := (by rw [hb2.block _ (by rw [rdW_size] at hb; omega)]; exact hr1.out); obtain ⟨rd0, rd1, rd2, rd3, rd4, rd5⟩ := six_read hr2; have rg := fun j => frozen_of_row w2 (w.heap.size + 1) j _ 37 hr2; replace hr2 := Hid.intro hr2; replace hO2 := Hid.intro hO2) | (go_at_call 43; (with_reducible refine (hsd.out t w2 b hO2.out).mono ?_); rintro e w3 ⟨hb3, ai, ni, ci, va, n, vc, rfl, hit, hn, htm⟩; replace hit := Hid.intro hit; replace htm := Hid.intro htm; replace hn := Hid.intro hn))
  all_goals first | omega | skip
  obtain ⟨hw1, hw2⟩ := ro_wide hb1
  have hbb : w.heap.size + 2 <= b := by rw [rdW_size] at hb; exact hb
  have hOlt := hO.out.1
  have hs3 := hb3.size
  have hB3 : Below w.heap.size w w3 := (hw1.trans (hb2.mono (by omega))).trans (hb3.mono (by omega))
  have hS : RStG w t ai ni ci va n vc w3.heap.size (w3.alloc (.cells #[.int .i64 t.kind, .slice ai ni ci, .string (str t.name), .slice va n vc, .int .u32 t.e.const, .int .i64 t.sec] 37)) :=
   ⟨hB3.alloc hB3.size _, by rw [Below.heap_alloc _ _ _ (by omega), hb3.block _ (by omega)]; exact hr2.out, heap_alloc_new w3 _, hit.out.below (below_alloc w3 _), htm.out.below (below_alloc w3 _) (Nat.le_refl _)⟩
  generalize hp : w3.heap.size = p at hS ⊢
  generalize (w3.alloc (.cells #[.int .i64 t.kind, .slice ai ni ci, .string (str t.name), .slice va n vc, .int .u32 t.e.const, .int .i64 t.sec] 37)) = w4 at hS ⊢
  have hni := Hid.intro (lie_len hit.out)
  have hnim : ni <= 1100000 := by rw [hni.out]; exact hmanyH.out
  clear rd0 rd1 rd2 rd3 rd4 rd5 rg rc0 rc1 rc2 rc3 rc4 rc5 rf l1 l2 hr1 hr2 hb3 hb2 hb1 hO hO2 hro hrd hsd hp hB3 hit htm
  replace hS := Hid.intro hS
  have t1 := (cell_blockT hS.out.thing 1).trans rfl
  go_wp2
  all_goals first | omega | skip
  clear t1
  go_loopw [54] (fun v54 wr => ∃ i : Nat, i <= ni /\ v54 = .int .i64 (i : Int) /\ Hid (((t.items.take i).all fun y => standsB y.kind sec) = true) /\ Hid (RStG w t ai ni ci va n vc p wr)) (fun v54 wr => ni - (intOf v54).toNat)
  case atStart => exact ⟨0, by omega, rfl, (by show _ = _; simp), hS⟩
  case round =>
   clear hS
   obtain ⟨i, hi, rfl, hall, hS⟩ := hrel
   by_cases hlt : i < ni
   ·obtain ⟨x, hx⟩ : ∃ x, t.items[i]? = some x := ⟨t.items[i]'(by rw [<- hni.out]; exact hlt), List.getElem?_eq_getElem _⟩
    obtain ⟨q, rfl, hq, xa, xn, xc, hI⟩ := lie_at hS.out.items hx
    obtain ⟨c0, c1, c2, c3, c4, c5, c6, c7, c8, c9⟩ := hI
    have hlt2 : (i : Int) < (ni : Int) := by omega
    have hst := Hid.intro (fun w1 => stands_any x.kind sec w1)
    have hal2 := Hid.intro (fun o => hS.out.below (below_alloc wr o))
    have r0 := fun o => (cell_blockT (hal2.out o).res 0).trans rfl
    have r1 := fun o => (cell_blockT (hal2.out o).res 1).trans rfl
    have r2 := fun o => (cell_blockT (hal2.out o).res 2).trans rfl
    have r3 := fun o => (cell_blockT (hal2.out o).res 3).trans rfl
    have r4 := fun o => (cell_blockT (hal2.out o).res 4).trans rfl
    have r5 := fun o => (cell_blockT (hal2.out o).res 5).trans rfl
    have rf := fun o j => frozen_of_row (wr.alloc o) (w.heap.size + 1) j _ 37 (hal2.out o).res
    cases hsb : standsB x.kind sec
    ·rw [hsb] at hst
     have hbadH := Hid.intro (stands_bad hx hsb)
     clear hx hsb
     go_wp2_with (go_at_call 23; (with_reducible refine (hst.out _).mono ?_); rintro e w5 ⟨rfl, rfl⟩)
     all_goals first | omega | skip
     have hal3 := hal2.out (.cells (itmCells x (.slice xa xn xc)) 33)
     have hbs := hal3.bel.size
     obtain ⟨s1, s2⟩ := six_set hal3.res (.int .i64 0) (.slice none 0 0) (.string ⟨#[]⟩) (.slice none 0 0) (.int .u32 0) (.int .i64 0)
     have hB9 := (hal3.bel).grown s2 (by omega) (fun j hj => by cases hj; omega)
     generalize (((((((wr.alloc (.cells (itmCells x (.slice xa xn xc)) 33)).setCell ⟨w.heap.size + 1, 0, none⟩ (.int .i64 0)).setCell ⟨w.heap.size + 1, 1, none⟩ (.slice none 0 0)).setCell ⟨w.heap.size + 1, 2, none⟩ (.string ⟨#[]⟩)).setCell ⟨w.heap.size + 1, 3, none⟩ (.slice none 0 0)).setCell ⟨w.heap.size + 1, 4, none⟩ (.int .u32 0)).setCell ⟨w.heap.size + 1, 5, none⟩ (.int .i64 0)) = w9 at s1 s2 hB9 ⊢
     obtain ⟨k0, k1, k2, k3, k4, k5⟩ := thing_ret (w8 := w9) s1
     refine bodyPost_ret (by simp [results, Tryz.results17, go_sem, k0, k1, k2, k3, k4, k5]; try rfl) rfl ?_
     rw [hbadH.out]
     exact ⟨hB9, rfl⟩
    ·rw [hsb] at hst
     have hnext : Hid (((t.items.take (i + 1)).all fun y => standsB y.kind sec) = true) := (by show _ = _; rw [stands_take hx, hall.out, hsb]; rfl)
     clear hx hsb
     go_wp2_with (go_at_call 23; (with_reducible refine (hst.out _).mono ?_); rintro e w5 ⟨rfl, rfl⟩)
     all_goals first | omega | skip
     go_roundw
     case rel => exact ⟨i + 1, by omega, by go_num, hnext, Hid.intro (hal2.out _)⟩
     case measure => simp [intOf]; omega
   ·have hin : i = ni := by omega
    have hokH : Hid (standsT t sec = .ok t) := stands_all (by rw [<- hni.out]; omega) hall.out
    subst hin
    have hlt3 : ¬ ((i : Int) < (i : Int)) := by omega
    obtain ⟨t0, t1, t2, t3, t4, t5⟩ := six_read hS.out.thing
    obtain ⟨r0, r1, r2, r3, r4, r5⟩ := six_read hS.out.res
    have rf := fun j => frozen_of_row wr (w.heap.size + 1) j _ 37 hS.out.res
    go_wp2
    all_goals first | omega | skip
    obtain ⟨s1, s2⟩ := six_set hS.out.res (.int .i64 t.kind) (.slice ai i ci) (.string (str t.name)) (.slice va n vc) (.int .u32 t.e.const) (.int .i64 t.sec)
    have hbs := hS.out.bel.size
    have hB9 := (hS.out.bel).grown s2 (by omega) (fun j hj => by cases hj; omega)
    have hit9 := items_res hS.out.items hS.out.res s2
    have htm9 := tmLies_res hS.out.terms hS.out.res s2
    generalize ((((((wr.setCell ⟨w.heap.size + 1, 0, none⟩ (.int .i64 t.kind)).setCell ⟨w.heap.size + 1, 1, none⟩ (.slice ai i ci)).setCell ⟨w.heap.size + 1, 2, none⟩ (.string (str t.name))).setCell ⟨w.heap.size + 1, 3, none⟩ (.slice va n vc)).setCell ⟨w.heap.size + 1, 4, none⟩ (.int .u32 t.e.const)).setCell ⟨w.heap.size + 1, 5, none⟩ (.int .i64 t.sec)) = w9 at s1 s2 hB9 hit9 htm9 ⊢
    obtain ⟨k0, k1, k2, k3, k4, k5⟩ := thing_ret (w8 := w9) s1
    refine bodyPost_ret (by simp [results, Tryz.results17, go_sem, k0, k1, k2, k3, k4, k5]; try rfl) rfl ?_
    rw [hokH.out]
    exact ⟨hB9, .slice ai i ci, va, n, vc, rfl, hit9, hn.out, htm9⟩
end Go.Proofs.YtlkmegchaeokgaaGreatDoor
/- item's Read, by one more reader. -/
namespace Go.Proofs.YtlkmegchaeokgaaGreatDoor
open Go.ChangeShapes Go.WideShapes Go.ChangeAt Go.RowKit
set_option linter.unusedVariables false
set_option maxRecDepth 100000
set_option maxHeartbeats 1000000 in
theorem readLen_export (lb s : List UInt8) (hs0 : s ≠ []) (a : Option Addr) (c : Nat) (n0 : Nat) (hal : n0 <= 1100000) (sec : Int) (w : World) (least most : Int) (hbad : (n0 : Int) < least ∨ most < (n0 : Int)) (RB : World -> Nat -> Prop)
  (hro0 : ∀ w1, Below w.heap.size w w1 -> Calls Tryz.prog 42 #[.string (str s)] w1 fun e w2 => Below w1.heap.size w1 w2 /\ ∃ b, w1.heap.size <= b /\ e = .returned (.tuple #[.iface 128 (.pointer (some ⟨b, 0, none⟩)), .int .i64 least, .int .i64 most]) /\ (b < w2.heap.size /\ RB w2 b)) :
  Calls Tryz.prog 17 #[.agg #[.string (str lb), .string (str s), .slice a n0 c], .int .i64 sec] w fun e w' => Below w.heap.size w w' /\ ThOut w' (.error 20) e := by
 have hne : ((str s).toList == []) = false := by rw [str_toList]; exact beq_false_of_ne hs0
 have hnl : ∀ a w, (binOp .eql 89 (.iface 128 (.pointer (some a))) .nilIface).run Tryz.prog w = .ok (.bool false) w := nil_128
 have hro := Hid.intro (hro0 (rdW w lb s a n0 c) (rdW_below w lb s a n0 c))
 clear hro0
 by_cases hl : (n0 : Int) < least
 ·clear hbad
  go_enter Tryz.func17, Tryz.ntmps17
  go_wp2_with (go_at_call 42; (with_reducible refine (hro.out).mono ?_); rintro e w1 ⟨hb1, b, hb, rfl, hO⟩; have hs1 := hb1.size; replace hO := Hid.intro hO; obtain ⟨l1, l2, hr1⟩ := ro_facts hb1; obtain ⟨rc0, rc1, rc2, rc3, rc4, rc5⟩ := six_read hr1; have rf := fun j => frozen_of_row w1 (w.heap.size + 1) j _ 37 hr1; replace hr1 := Hid.intro hr1)
  all_goals first | omega | skip
  obtain ⟨hw1, hw2⟩ := ro_wide hb1
  obtain ⟨s1, s2⟩ := six_set hr1.out (.int .i64 0) (.slice none 0 0) (.string ⟨#[]⟩) (.slice none 0 0) (.int .u32 0) (.int .i64 0)
  have hB9 := (hw1).grown s2 (by omega) (fun j hj => by cases hj; omega)
  generalize ((((((w1.setCell ⟨w.heap.size + 1, 0, none⟩ (.int .i64 0)).setCell ⟨w.heap.size + 1, 1, none⟩ (.slice none 0 0)).setCell ⟨w.heap.size + 1, 2, none⟩ (.string ⟨#[]⟩)).setCell ⟨w.heap.size + 1, 3, none⟩ (.slice none 0 0)).setCell ⟨w.heap.size + 1, 4, none⟩ (.int .u32 0)).setCell ⟨w.heap.size + 1, 5, none⟩ (.int .i64 0)) = w9 at s1 s2 hB9 ⊢
  obtain ⟨k0, k1, k2, k3, k4, k5⟩ := thing_ret (w8 := w9) s1
  refine bodyPost_ret (by simp [results, Tryz.results17, go_sem, k0, k1, k2, k3, k4, k5]; try rfl) rfl ?_
  exact ⟨hB9, rfl⟩
 ·have hl2 : most < (n0 : Int) := by omega
  clear hbad
  go_enter Tryz.func17, Tryz.ntmps17
  go_wp2_with (go_at_call 42; (with_reducible refine (hro.out).mono ?_); rintro e w1 ⟨hb1, b, hb, rfl, hO⟩; have hs1 := hb1.size; replace hO := Hid.intro hO; obtain ⟨l1, l2, hr1⟩ := ro_facts hb1; obtain ⟨rc0, rc1, rc2, rc3, rc4, rc5⟩ := six_read hr1; have rf := fun j => frozen_of_row w1 (w.heap.size + 1) j _ 37 hr1; replace hr1 := Hid.intro hr1)
  all_goals first | omega | skip
  obtain ⟨hw1, hw2⟩ := ro_wide hb1
  obtain ⟨s1, s2⟩ := six_set hr1.out (.int .i64 0) (.slice none 0 0) (.string ⟨#[]⟩) (.slice none 0 0) (.int .u32 0) (.int .i64 0)
  have hB9 := (hw1).grown s2 (by omega) (fun j hj => by cases hj; omega)
  generalize ((((((w1.setCell ⟨w.heap.size + 1, 0, none⟩ (.int .i64 0)).setCell ⟨w.heap.size + 1, 1, none⟩ (.slice none 0 0)).setCell ⟨w.heap.size + 1, 2, none⟩ (.string ⟨#[]⟩)).setCell ⟨w.heap.size + 1, 3, none⟩ (.slice none 0 0)).setCell ⟨w.heap.size + 1, 4, none⟩ (.int .u32 0)).setCell ⟨w.heap.size + 1, 5, none⟩ (.int .i64 0)) = w9 at s1 s2 hB9 ⊢
  obtain ⟨k0, k1, k2, k3, k4, k5⟩ := thing_ret (w8 := w9) s1
  refine bodyPost_ret (by simp [results, Tryz.results17, go_sem, k0, k1, k2, k3, k4, k5]; try rfl) rfl ?_
  exact ⟨hB9, rfl⟩
set_option maxHeartbeats 2000000 in
theorem readG_export (lb s : List UInt8) (hs0 : s ≠ []) (a : Option Addr) (c : Nat) (n0 : Nat) (hal : n0 <= 1100000) (sec : Int) (w : World) (least most : Int) (hlo : ¬ (n0 : Int) < least) (hhi : ¬ most < (n0 : Int)) (RB : World -> Nat -> Prop) (RD : Thg -> World -> Nat -> Prop) (R : Except Int Thg)
  (hro0 : ∀ w1, Below w.heap.size w w1 -> Calls Tryz.prog 42 #[.string (str s)] w1 fun e w2 => Below w1.heap.size w1 w2 /\ ∃ b, w1.heap.size <= b /\ e = .returned (.tuple #[.iface 128 (.pointer (some ⟨b, 0, none⟩)), .int .i64 least, .int .i64 most]) /\ (b < w2.heap.size /\ RB w2 b))
  (hrd0 : ∀ w1 b, Below w.heap.size w w1 -> w.heap.size + 2 <= b -> b < w1.heap.size -> RB w1 b -> Calls Tryz.prog 163 #[.pointer (some ⟨b, 0, none⟩), .slice a n0 c] w1 fun e w2 => Below b w1 w2 /\ RdOut R RD e w2 b)
  (hsd0 : ∀ t w1 b, RD t w1 b -> Calls Tryz.prog 43 #[.iface 128 (.pointer (some ⟨b, 0, none⟩))] w1 fun e w2 => Below w1.heap.size w1 w2 /\ ∃ ai ni ci va n vc, e = .returned (thgV t.kind (.slice ai ni ci) t.name (.slice va n vc) t.e.const t.sec) /\ ItemsLie w2 (.slice ai ni ci) t.items /\ n = t.e.terms.length /\ TmLies w2 va t.e.terms)
  (hk : ∀ k, R = .error k -> k ≠ 0) (hmany : ∀ t, R = .ok t -> t.items.length <= 1100000) :
  Calls Tryz.prog 17 #[.agg #[.string (str lb), .string (str s), .slice a n0 c], .int .i64 sec] w fun e w' => Below w.heap.size w w' /\ ThOut w' (andStands R sec) e := by
 have hne : ((str s).toList == []) = false := by rw [str_toList]; exact beq_false_of_ne hs0
 have hnl : ∀ a w, (binOp .eql 89 (.iface 128 (.pointer (some a))) .nilIface).run Tryz.prog w = .ok (.bool false) w := nil_128
 have hro := Hid.intro (hro0 (rdW w lb s a n0 c) (rdW_below w lb s a n0 c))
 clear hro0
 cases R with
 | error k =>
  have hk0 : (k == 0) = false := by have := hk k rfl; simpa using this
  have hrd : Hid (∀ w1, Below (rdW w lb s a n0 c).heap.size (rdW w lb s a n0 c) w1 -> ∀ b, (rdW w lb s a n0 c).heap.size <= b -> (b < w1.heap.size /\ RB w1 b) -> Calls Tryz.prog 163 #[.pointer (some ⟨b, 0, none⟩), .slice a n0 c] w1 fun e w2 => e = .returned (.int .i64 k) /\ Below b w1 w2 /\ True) := fun w1 h1 b hb hO => by
   obtain ⟨hw1, hw2⟩ := ro_wide h1
   refine (hrd0 w1 b hw1 (by rw [rdW_size] at hb; exact hb) hO.1 hO.2).mono ?_
   rintro e w2 ⟨h1, h2⟩
   exact ⟨h2, h1, trivial⟩
  clear hrd0 hsd0 hk hmany
  rw [show andStands (.error k) sec = .error k from rfl]
  go_enter Tryz.func17, Tryz.ntmps17
  go_wp2_with (first | (go_at_call 42; (with_reducible refine (hro.out).mono ?_); rintro e w1 ⟨hb1, b, hb, rfl, hO⟩; have hs1 := hb1.size; replace hO := Hid.intro hO; obtain ⟨l1, l2, hr1⟩ := ro_facts hb1; obtain ⟨rc0, rc1, rc2, rc3, rc4, rc5⟩ := six_read hr1; have rf := fun j => frozen_of_row w1 (w.heap.size + 1) j _ 37 hr1; replace hr1 := Hid.intro hr1) | (go_at_call 163; (with_reducible refine (hrd.out w1 hb1 b hb hO.out).mono ?_); rintro e w2 ⟨rfl, hb2, hO2⟩; have hs2 := hb2.size; have hr2 : w2.heap[w.heap.size + 1]? = some (.cells zero6 37 (0, 0)) := (by rw [hb2.block _ (by rw [rdW_size] at hb; omega)]; exact hr1.out); obtain ⟨rd0, rd1, rd2, rd3, rd4, rd5⟩ := six_read hr2; have rg := fun j => frozen_of_row w2 (w.heap.size + 1) j _ 37 hr2; replace hr2 := Hid.intro hr2; replace hO2 := Hid.intro hO2))
  all_goals first | omega | skip
  obtain ⟨hw1, hw2⟩ := ro_wide hb1
  have hw3 : Below w.heap.size w w2 := hw1.trans (hb2.mono (by rw [rdW_size] at hb; omega))
  obtain ⟨s1, s2⟩ := six_set hr2.out (.int .i64 0) (.slice none 0 0) (.string ⟨#[]⟩) (.slice none 0 0) (.int .u32 0) (.int .i64 0)
  have hB9 := (hw3).grown s2 (by omega) (fun j hj => by cases hj; omega)
  generalize ((((((w2.setCell ⟨w.heap.size + 1, 0, none⟩ (.int .i64 0)).setCell ⟨w.heap.size + 1, 1, none⟩ (.slice none 0 0)).setCell ⟨w.heap.size + 1, 2, none⟩ (.string ⟨#[]⟩)).setCell ⟨w.heap.size + 1, 3, none⟩ (.slice none 0 0)).setCell ⟨w.heap.size + 1, 4, none⟩ (.int .u32 0)).setCell ⟨w.heap.size + 1, 5, none⟩ (.int .i64 0)) = w9 at s1 s2 hB9 ⊢
  obtain ⟨k0, k1, k2, k3, k4, k5⟩ := thing_ret (w8 := w9) s1
  refine bodyPost_ret (by simp [results, Tryz.results17, go_sem, k0, k1, k2, k3, k4, k5]; try rfl) rfl ?_
  exact ⟨hB9, rfl⟩
 | ok t =>
  have hrd : Hid (∀ w1, Below (rdW w lb s a n0 c).heap.size (rdW w lb s a n0 c) w1 -> ∀ b, (rdW w lb s a n0 c).heap.size <= b -> (b < w1.heap.size /\ RB w1 b) -> Calls Tryz.prog 163 #[.pointer (some ⟨b, 0, none⟩), .slice a n0 c] w1 fun e w2 => e = .returned (.int .i64 0) /\ Below b w1 w2 /\ RD t w2 b) := fun w1 h1 b hb hO => by
   obtain ⟨hw1, hw2⟩ := ro_wide h1
   refine (hrd0 w1 b hw1 (by rw [rdW_size] at hb; exact hb) hO.1 hO.2).mono ?_
   rintro e w2 ⟨h1, h2⟩
   exact ⟨h2.1, h1, h2.2⟩
  have hsd := Hid.intro hsd0
  have hmanyH := Hid.intro (hmany t rfl)
  clear hrd0 hsd0 hk hmany
  rw [show andStands (.ok t) sec = standsT t sec from rfl]
  go_enter Tryz.func17, Tryz.ntmps17
  go_upto_region 10 with (first | (go_at_call 42; (with_reducible refine (hro.out).mono ?_); rintro e w1 ⟨hb1, b, hb, rfl, hO⟩; have hs1 := hb1.size; replace hO := Hid.intro hO; obtain ⟨l1, l2, hr1⟩ := ro_facts hb1; obtain ⟨rc0, rc1, rc2, rc3, rc4, rc5⟩ := six_read hr1; have rf := fun j => frozen_of_row w1 (w.heap.size + 1) j _ 37 hr1; replace hr1 := Hid.intro hr1) | (go_at_call 163; (with_reducible refine (hrd.out w1 hb1 b hb hO.out).mono ?_); rintro e w2 ⟨rfl, hb2, hO2⟩; have hs2 := hb2.size; have hr2 : w2.heap[w.heap.size + 1]? = some (.cells zero6 37 (0, 0)) := (by rw [hb2.block _ (by rw [rdW_size] at hb; omega)]; exact hr1.out); obtain ⟨rd0, rd1, rd2, rd3, rd4, rd5⟩ := six_read hr2; have rg := fun j => frozen_of_row w2 (w.heap.size + 1) j _ 37 hr2; replace hr2 := Hid.intro hr2; replace hO2 := Hid.intro hO2) | (go_at_call 43; (with_reducible refine (hsd.out t w2 b hO2.out).mono ?_); rintro e w3 ⟨hb3, ai, ni, ci, va, n, vc, rfl, hit, hn, htm⟩; replace hit := Hid.intro hit; replace htm := Hid.intro htm; replace hn := Hid.intro hn))
  all_goals first | omega | skip
  obtain ⟨hw1, hw2⟩ := ro_wide hb1
  have hbb : w.heap.size + 2 <= b := by rw [rdW_size] at hb; exact hb
  have hOlt := hO.out.1
  have hs3 := hb3.size
  have hB3 : Below w.heap.size w w3 := (hw1.trans (hb2.mono (by omega))).trans (hb3.mono (by omega))
  have hS : RStG w t ai ni ci va n vc w3.heap.size (w3.alloc (.cells #[.int .i64 t.kind, .slice ai ni ci, .string (str t.name), .slice va n vc, .int .u32 t.e.const, .int .i64 t.sec] 37)) :=
   ⟨hB3.alloc hB3.size _, by rw [Below.heap_alloc _ _ _ (by omega), hb3.block _ (by omega)]; exact hr2.out, heap_alloc_new w3 _, hit.out.below (below_alloc w3 _), htm.out.below (below_alloc w3 _) (Nat.le_refl _)⟩
  generalize hp : w3.heap.size = p at hS ⊢
  generalize (w3.alloc (.cells #[.int .i64 t.kind, .slice ai ni ci, .string (str t.name), .slice va n vc, .int .u32 t.e.const, .int .i64 t.sec] 37)) = w4 at hS ⊢
  have hni := Hid.intro (lie_len hit.out)
  have hnim : ni <= 1100000 := by rw [hni.out]; exact hmanyH.out
  clear rd0 rd1 rd2 rd3 rd4 rd5 rg rc0 rc1 rc2 rc3 rc4 rc5 rf l1 l2 hr1 hr2 hb3 hb2 hb1 hO hO2 hro hrd hsd hp hB3 hit htm
  replace hS := Hid.intro hS
  have t1 := (cell_blockT hS.out.thing 1).trans rfl
  go_wp2
  all_goals first | omega | skip
  clear t1
  go_loopw [54] (fun v54 wr => ∃ i : Nat, i <= ni /\ v54 = .int .i64 (i : Int) /\ Hid (((t.items.take i).all fun y => standsB y.kind sec) = true) /\ Hid (RStG w t ai ni ci va n vc p wr)) (fun v54 wr => ni - (intOf v54).toNat)
  case atStart => exact ⟨0, by omega, rfl, (by show _ = _; simp), hS⟩
  case round =>
   clear hS
   obtain ⟨i, hi, rfl, hall, hS⟩ := hrel
   by_cases hlt : i < ni
   ·obtain ⟨x, hx⟩ : ∃ x, t.items[i]? = some x := ⟨t.items[i]'(by rw [<- hni.out]; exact hlt), List.getElem?_eq_getElem _⟩
    obtain ⟨q, rfl, hq, xa, xn, xc, hI⟩ := lie_at hS.out.items hx
    obtain ⟨c0, c1, c2, c3, c4, c5, c6, c7, c8, c9⟩ := hI
    have hlt2 : (i : Int) < (ni : Int) := by omega
    have hst := Hid.intro (fun w1 => stands_any x.kind sec w1)
    have hal2 := Hid.intro (fun o => hS.out.below (below_alloc wr o))
    have r0 := fun o => (cell_blockT (hal2.out o).res 0).trans rfl
    have r1 := fun o => (cell_blockT (hal2.out o).res 1).trans rfl
    have r2 := fun o => (cell_blockT (hal2.out o).res 2).trans rfl
    have r3 := fun o => (cell_blockT (hal2.out o).res 3).trans rfl
    have r4 := fun o => (cell_blockT (hal2.out o).res 4).trans rfl
    have r5 := fun o => (cell_blockT (hal2.out o).res 5).trans rfl
    have rf := fun o j => frozen_of_row (wr.alloc o) (w.heap.size + 1) j _ 37 (hal2.out o).res
    cases hsb : standsB x.kind sec
    ·rw [hsb] at hst
     have hbadH := Hid.intro (stands_bad hx hsb)
     clear hx hsb
     go_wp2_with (go_at_call 23; (with_reducible refine (hst.out _).mono ?_); rintro e w5 ⟨rfl, rfl⟩)
     all_goals first | omega | skip
     have hal3 := hal2.out (.cells (itmCells x (.slice xa xn xc)) 33)
     have hbs := hal3.bel.size
     obtain ⟨s1, s2⟩ := six_set hal3.res (.int .i64 0) (.slice none 0 0) (.string ⟨#[]⟩) (.slice none 0 0) (.int .u32 0) (.int .i64 0)
     have hB9 := (hal3.bel).grown s2 (by omega) (fun j hj => by cases hj; omega)
     generalize (((((((wr.alloc (.cells (itmCells x (.slice xa xn xc)) 33)).setCell ⟨w.heap.size + 1, 0, none⟩ (.int .i64 0)).setCell ⟨w.heap.size + 1, 1, none⟩ (.slice none 0 0)).setCell ⟨w.heap.size + 1, 2, none⟩ (.string ⟨#[]⟩)).setCell ⟨w.heap.size + 1, 3, none⟩ (.slice none 0 0)).setCell ⟨w.heap.size + 1, 4, none⟩ (.int .u32 0)).setCell ⟨w.heap.size + 1, 5, none⟩ (.int .i64 0)) = w9 at s1 s2 hB9 ⊢
     obtain ⟨k0, k1, k2, k3, k4, k5⟩ := thing_ret (w8 := w9) s1
     refine bodyPost_ret (by simp [results, Tryz.results17, go_sem, k0, k1, k2, k3, k4, k5]; try rfl) rfl ?_
     rw [hbadH.out]
     exact ⟨hB9, rfl⟩
    ·rw [hsb] at hst
     have hnext : Hid (((t.items.take (i + 1)).all fun y => standsB y.kind sec) = true) := (by show _ = _; rw [stands_take hx, hall.out, hsb]; rfl)
     clear hx hsb
     go_wp2_with (go_at_call 23; (with_reducible refine (hst.out _).mono ?_); rintro e w5 ⟨rfl, rfl⟩)
     all_goals first | omega | skip
     go_roundw
     case rel => exact ⟨i + 1, by omega, by go_num, hnext, Hid.intro (hal2.out _)⟩
     case measure => simp [intOf]; omega
   ·have hin : i = ni := by omega
    have hokH : Hid (standsT t sec = .ok t) := stands_all (by rw [<- hni.out]; omega) hall.out
    subst hin
    have hlt3 : ¬ ((i : Int) < (i : Int)) := by omega
    obtain ⟨t0, t1, t2, t3, t4, t5⟩ := six_read hS.out.thing
    obtain ⟨r0, r1, r2, r3, r4, r5⟩ := six_read hS.out.res
    have rf := fun j => frozen_of_row wr (w.heap.size + 1) j _ 37 hS.out.res
    go_wp2
    all_goals first | omega | skip
    obtain ⟨s1, s2⟩ := six_set hS.out.res (.int .i64 t.kind) (.slice ai i ci) (.string (str t.name)) (.slice va n vc) (.int .u32 t.e.const) (.int .i64 t.sec)
    have hbs := hS.out.bel.size
    have hB9 := (hS.out.bel).grown s2 (by omega) (fun j hj => by cases hj; omega)
    have hit9 := items_res hS.out.items hS.out.res s2
    have htm9 := tmLies_res hS.out.terms hS.out.res s2
    generalize ((((((wr.setCell ⟨w.heap.size + 1, 0, none⟩ (.int .i64 t.kind)).setCell ⟨w.heap.size + 1, 1, none⟩ (.slice ai i ci)).setCell ⟨w.heap.size + 1, 2, none⟩ (.string (str t.name))).setCell ⟨w.heap.size + 1, 3, none⟩ (.slice va n vc)).setCell ⟨w.heap.size + 1, 4, none⟩ (.int .u32 t.e.const)).setCell ⟨w.heap.size + 1, 5, none⟩ (.int .i64 t.sec)) = w9 at s1 s2 hB9 hit9 htm9 ⊢
    obtain ⟨k0, k1, k2, k3, k4, k5⟩ := thing_ret (w8 := w9) s1
    refine bodyPost_ret (by simp [results, Tryz.results17, go_sem, k0, k1, k2, k3, k4, k5]; try rfl) rfl ?_
    rw [hokH.out]
    exact ⟨hB9, .slice ai i ci, va, n, vc, rfl, hit9, hn.out, htm9⟩
end Go.Proofs.YtlkmegchaeokgaaGreatDoor
/- item's Read, by one more reader. -/
namespace Go.Proofs.YtlkmegchaeokgaaGreatDoor
open Go.ChangeShapes Go.WideShapes Go.ChangeAt Go.RowKit
set_option linter.unusedVariables false
set_option maxRecDepth 100000
set_option maxHeartbeats 1000000 in
theorem readLen_segment (lb s : List UInt8) (hs0 : s ≠ []) (a : Option Addr) (c : Nat) (n0 : Nat) (hal : n0 <= 1100000) (sec : Int) (w : World) (least most : Int) (hbad : (n0 : Int) < least ∨ most < (n0 : Int)) (RB : World -> Nat -> Prop)
  (hro0 : ∀ w1, Below w.heap.size w w1 -> Calls Tryz.prog 42 #[.string (str s)] w1 fun e w2 => Below w1.heap.size w1 w2 /\ ∃ b, w1.heap.size <= b /\ e = .returned (.tuple #[.iface 131 (.pointer (some ⟨b, 0, none⟩)), .int .i64 least, .int .i64 most]) /\ (b < w2.heap.size /\ RB w2 b)) :
  Calls Tryz.prog 17 #[.agg #[.string (str lb), .string (str s), .slice a n0 c], .int .i64 sec] w fun e w' => Below w.heap.size w w' /\ ThOut w' (.error 20) e := by
 have hne : ((str s).toList == []) = false := by rw [str_toList]; exact beq_false_of_ne hs0
 have hnl : ∀ a w, (binOp .eql 89 (.iface 131 (.pointer (some a))) .nilIface).run Tryz.prog w = .ok (.bool false) w := nil_131
 have hro := Hid.intro (hro0 (rdW w lb s a n0 c) (rdW_below w lb s a n0 c))
 clear hro0
 by_cases hl : (n0 : Int) < least
 ·clear hbad
  go_enter Tryz.func17, Tryz.ntmps17
  go_wp2_with (go_at_call 42; (with_reducible refine (hro.out).mono ?_); rintro e w1 ⟨hb1, b, hb, rfl, hO⟩; have hs1 := hb1.size; replace hO := Hid.intro hO; obtain ⟨l1, l2, hr1⟩ := ro_facts hb1; obtain ⟨rc0, rc1, rc2, rc3, rc4, rc5⟩ := six_read hr1; have rf := fun j => frozen_of_row w1 (w.heap.size + 1) j _ 37 hr1; replace hr1 := Hid.intro hr1)
  all_goals first | omega | skip
  obtain ⟨hw1, hw2⟩ := ro_wide hb1
  obtain ⟨s1, s2⟩ := six_set hr1.out (.int .i64 0) (.slice none 0 0) (.string ⟨#[]⟩) (.slice none 0 0) (.int .u32 0) (.int .i64 0)
  have hB9 := (hw1).grown s2 (by omega) (fun j hj => by cases hj; omega)
  generalize ((((((w1.setCell ⟨w.heap.size + 1, 0, none⟩ (.int .i64 0)).setCell ⟨w.heap.size + 1, 1, none⟩ (.slice none 0 0)).setCell ⟨w.heap.size + 1, 2, none⟩ (.string ⟨#[]⟩)).setCell ⟨w.heap.size + 1, 3, none⟩ (.slice none 0 0)).setCell ⟨w.heap.size + 1, 4, none⟩ (.int .u32 0)).setCell ⟨w.heap.size + 1, 5, none⟩ (.int .i64 0)) = w9 at s1 s2 hB9 ⊢
  obtain ⟨k0, k1, k2, k3, k4, k5⟩ := thing_ret (w8 := w9) s1
  refine bodyPost_ret (by simp [results, Tryz.results17, go_sem, k0, k1, k2, k3, k4, k5]; try rfl) rfl ?_
  exact ⟨hB9, rfl⟩
 ·have hl2 : most < (n0 : Int) := by omega
  clear hbad
  go_enter Tryz.func17, Tryz.ntmps17
  go_wp2_with (go_at_call 42; (with_reducible refine (hro.out).mono ?_); rintro e w1 ⟨hb1, b, hb, rfl, hO⟩; have hs1 := hb1.size; replace hO := Hid.intro hO; obtain ⟨l1, l2, hr1⟩ := ro_facts hb1; obtain ⟨rc0, rc1, rc2, rc3, rc4, rc5⟩ := six_read hr1; have rf := fun j => frozen_of_row w1 (w.heap.size + 1) j _ 37 hr1; replace hr1 := Hid.intro hr1)
  all_goals first | omega | skip
  obtain ⟨hw1, hw2⟩ := ro_wide hb1
  obtain ⟨s1, s2⟩ := six_set hr1.out (.int .i64 0) (.slice none 0 0) (.string ⟨#[]⟩) (.slice none 0 0) (.int .u32 0) (.int .i64 0)
  have hB9 := (hw1).grown s2 (by omega) (fun j hj => by cases hj; omega)
  generalize ((((((w1.setCell ⟨w.heap.size + 1, 0, none⟩ (.int .i64 0)).setCell ⟨w.heap.size + 1, 1, none⟩ (.slice none 0 0)).setCell ⟨w.heap.size + 1, 2, none⟩ (.string ⟨#[]⟩)).setCell ⟨w.heap.size + 1, 3, none⟩ (.slice none 0 0)).setCell ⟨w.heap.size + 1, 4, none⟩ (.int .u32 0)).setCell ⟨w.heap.size + 1, 5, none⟩ (.int .i64 0)) = w9 at s1 s2 hB9 ⊢
  obtain ⟨k0, k1, k2, k3, k4, k5⟩ := thing_ret (w8 := w9) s1
  refine bodyPost_ret (by simp [results, Tryz.results17, go_sem, k0, k1, k2, k3, k4, k5]; try rfl) rfl ?_
  exact ⟨hB9, rfl⟩
set_option maxHeartbeats 2000000 in
theorem readG_segment (lb s : List UInt8) (hs0 : s ≠ []) (a : Option Addr) (c : Nat) (n0 : Nat) (hal : n0 <= 1100000) (sec : Int) (w : World) (least most : Int) (hlo : ¬ (n0 : Int) < least) (hhi : ¬ most < (n0 : Int)) (RB : World -> Nat -> Prop) (RD : Thg -> World -> Nat -> Prop) (R : Except Int Thg)
  (hro0 : ∀ w1, Below w.heap.size w w1 -> Calls Tryz.prog 42 #[.string (str s)] w1 fun e w2 => Below w1.heap.size w1 w2 /\ ∃ b, w1.heap.size <= b /\ e = .returned (.tuple #[.iface 131 (.pointer (some ⟨b, 0, none⟩)), .int .i64 least, .int .i64 most]) /\ (b < w2.heap.size /\ RB w2 b))
  (hrd0 : ∀ w1 b, Below w.heap.size w w1 -> w.heap.size + 2 <= b -> b < w1.heap.size -> RB w1 b -> Calls Tryz.prog 164 #[.pointer (some ⟨b, 0, none⟩), .slice a n0 c] w1 fun e w2 => Below b w1 w2 /\ RdOut R RD e w2 b)
  (hsd0 : ∀ t w1 b, RD t w1 b -> Calls Tryz.prog 43 #[.iface 131 (.pointer (some ⟨b, 0, none⟩))] w1 fun e w2 => Below w1.heap.size w1 w2 /\ ∃ ai ni ci va n vc, e = .returned (thgV t.kind (.slice ai ni ci) t.name (.slice va n vc) t.e.const t.sec) /\ ItemsLie w2 (.slice ai ni ci) t.items /\ n = t.e.terms.length /\ TmLies w2 va t.e.terms)
  (hk : ∀ k, R = .error k -> k ≠ 0) (hmany : ∀ t, R = .ok t -> t.items.length <= 1100000) :
  Calls Tryz.prog 17 #[.agg #[.string (str lb), .string (str s), .slice a n0 c], .int .i64 sec] w fun e w' => Below w.heap.size w w' /\ ThOut w' (andStands R sec) e := by
 have hne : ((str s).toList == []) = false := by rw [str_toList]; exact beq_false_of_ne hs0
 have hnl : ∀ a w, (binOp .eql 89 (.iface 131 (.pointer (some a))) .nilIface).run Tryz.prog w = .ok (.bool false) w := nil_131
 have hro := Hid.intro (hro0 (rdW w lb s a n0 c) (rdW_below w lb s a n0 c))
 clear hro0
 cases R with
 | error k =>
  have hk0 : (k == 0) = false := by have := hk k rfl; simpa using this
  have hrd : Hid (∀ w1, Below (rdW w lb s a n0 c).heap.size (rdW w lb s a n0 c) w1 -> ∀ b, (rdW w lb s a n0 c).heap.size <= b -> (b < w1.heap.size /\ RB w1 b) -> Calls Tryz.prog 164 #[.pointer (some ⟨b, 0, none⟩), .slice a n0 c] w1 fun e w2 => e = .returned (.int .i64 k) /\ Below b w1 w2 /\ True) := fun w1 h1 b hb hO => by
   obtain ⟨hw1, hw2⟩ := ro_wide h1
   refine (hrd0 w1 b hw1 (by rw [rdW_size] at hb; exact hb) hO.1 hO.2).mono ?_
   rintro e w2 ⟨h1, h2⟩
   exact ⟨h2, h1, trivial⟩
  clear hrd0 hsd0 hk hmany
  rw [show andStands (.error k) sec = .error k from rfl]
  go_enter Tryz.func17, Tryz.ntmps17
  go_wp2_with (first | (go_at_call 42; (with_reducible refine (hro.out).mono ?_); rintro e w1 ⟨hb1, b, hb, rfl, hO⟩; have hs1 := hb1.size; replace hO := Hid.intro hO; obtain ⟨l1, l2, hr1⟩ := ro_facts hb1; obtain ⟨rc0, rc1, rc2, rc3, rc4, rc5⟩ := six_read hr1; have rf := fun j => frozen_of_row w1 (w.heap.size + 1) j _ 37 hr1; replace hr1 := Hid.intro hr1) | (go_at_call 164; (with_reducible refine (hrd.out w1 hb1 b hb hO.out).mono ?_); rintro e w2 ⟨rfl, hb2, hO2⟩; have hs2 := hb2.size; have hr2 : w2.heap[w.heap.size + 1]? = some (.cells zero6 37 (0, 0)) := (by rw [hb2.block _ (by rw [rdW_size] at hb; omega)]; exact hr1.out); obtain ⟨rd0, rd1, rd2, rd3, rd4, rd5⟩ := six_read hr2; have rg := fun j => frozen_of_row w2 (w.heap.size + 1) j _ 37 hr2; replace hr2 := Hid.intro hr2; replace hO2 := Hid.intro hO2))
  all_goals first | omega | skip
  obtain ⟨hw1, hw2⟩ := ro_wide hb1
  have hw3 : Below w.heap.size w w2 := hw1.trans (hb2.mono (by rw [rdW_size] at hb; omega))
  obtain ⟨s1, s2⟩ := six_set hr2.out (.int .i64 0) (.slice none 0 0) (.string ⟨#[]⟩) (.slice none 0 0) (.int .u32 0) (.int .i64 0)
  have hB9 := (hw3).grown s2 (by omega) (fun j hj => by cases hj; omega)
  generalize ((((((w2.setCell ⟨w.heap.size + 1, 0, none⟩ (.int .i64 0)).setCell ⟨w.heap.size + 1, 1, none⟩ (.slice none 0 0)).setCell ⟨w.heap.size + 1, 2, none⟩ (.string ⟨#[]⟩)).setCell ⟨w.heap.size + 1, 3, none⟩ (.slice none 0 0)).setCell ⟨w.heap.size + 1, 4, none⟩ (.int .u32 0)).setCell ⟨w.heap.size + 1, 5, none⟩ (.int .i64 0)) = w9 at s1 s2 hB9 ⊢
  obtain ⟨k0, k1, k2, k3, k4, k5⟩ := thing_ret (w8 := w9) s1
  refine bodyPost_ret (by simp [results, Tryz.results17, go_sem, k0, k1, k2, k3, k4, k5]; try rfl) rfl ?_
  exact ⟨hB9, rfl⟩
 | ok t =>
  have hrd : Hid (∀ w1, Below (rdW w lb s a n0 c).heap.size (rdW w lb s a n0 c) w1 -> ∀ b, (rdW w lb s a n0 c).heap.size <= b -> (b < w1.heap.size /\ RB w1 b) -> Calls Tryz.prog 164 #[.pointer (some ⟨b, 0, none⟩), .slice a n0 c] w1 fun e w2 => e = .returned (.int .i64 0) /\ Below b w1 w2 /\ RD t w2 b) := fun w1 h1 b hb hO => by
   obtain ⟨hw1, hw2⟩ := ro_wide h1
   refine (hrd0 w1 b hw1 (by rw [rdW_size] at hb; exact hb) hO.1 hO.2).mono ?_
   rintro e w2 ⟨h1, h2⟩
   exact ⟨h2.1, h1, h2.2⟩
  have hsd := Hid.intro hsd0
  have hmanyH := Hid.intro (hmany t rfl)
  clear hrd0 hsd0 hk hmany
  rw [show andStands (.ok t) sec = standsT t sec from rfl]
  go_enter Tryz.func17, Tryz.ntmps17
  go_upto_region 10 with (first | (go_at_call 42; (with_reducible refine (hro.out).mono ?_); rintro e w1 ⟨hb1, b, hb, rfl, hO⟩; have hs1 := hb1.size; replace hO := Hid.intro hO; obtain ⟨l1, l2, hr1⟩ := ro_facts hb1; obtain ⟨rc0, rc1, rc2, rc3, rc4, rc5⟩ := six_read hr1; have rf := fun j => frozen_of_row w1 (w.heap.size + 1) j _ 37 hr1; replace hr1 := Hid.intro hr1) | (go_at_call 164; (with_reducible refine (hrd.out w1 hb1 b hb hO.out).mono ?_); rintro e w2 ⟨rfl, hb2, hO2⟩; have hs2 := hb2.size; have hr2 : w2.heap[w.heap.size + 1]? = some (.cells zero6 37 (0, 0)) := (by rw [hb2.block _ (by rw [rdW_size] at hb; omega)]; exact hr1.out); obtain ⟨rd0, rd1, rd2, rd3, rd4, rd5⟩ := six_read hr2; have rg := fun j => frozen_of_row w2 (w.heap.size + 1) j _ 37 hr2; replace hr2 := Hid.intro hr2; replace hO2 := Hid.intro hO2) | (go_at_call 43; (with_reducible refine (hsd.out t w2 b hO2.out).mono ?_); rintro e w3 ⟨hb3, ai, ni, ci, va, n, vc, rfl, hit, hn, htm⟩; replace hit := Hid.intro hit; replace htm := Hid.intro htm; replace hn := Hid.intro hn))
  all_goals first | omega | skip
  obtain ⟨hw1, hw2⟩ := ro_wide hb1
  have hbb : w.heap.size + 2 <= b := by rw [rdW_size] at hb; exact hb
  have hOlt := hO.out.1
  have hs3 := hb3.size
  have hB3 : Below w.heap.size w w3 := (hw1.trans (hb2.mono (by omega))).trans (hb3.mono (by omega))
  have hS : RStG w t ai ni ci va n vc w3.heap.size (w3.alloc (.cells #[.int .i64 t.kind, .slice ai ni ci, .string (str t.name), .slice va n vc, .int .u32 t.e.const, .int .i64 t.sec] 37)) :=
   ⟨hB3.alloc hB3.size _, by rw [Below.heap_alloc _ _ _ (by omega), hb3.block _ (by omega)]; exact hr2.out, heap_alloc_new w3 _, hit.out.below (below_alloc w3 _), htm.out.below (below_alloc w3 _) (Nat.le_refl _)⟩
  generalize hp : w3.heap.size = p at hS ⊢
  generalize (w3.alloc (.cells #[.int .i64 t.kind, .slice ai ni ci, .string (str t.name), .slice va n vc, .int .u32 t.e.const, .int .i64 t.sec] 37)) = w4 at hS ⊢
  have hni := Hid.intro (lie_len hit.out)
  have hnim : ni <= 1100000 := by rw [hni.out]; exact hmanyH.out
  clear rd0 rd1 rd2 rd3 rd4 rd5 rg rc0 rc1 rc2 rc3 rc4 rc5 rf l1 l2 hr1 hr2 hb3 hb2 hb1 hO hO2 hro hrd hsd hp hB3 hit htm
  replace hS := Hid.intro hS
  have t1 := (cell_blockT hS.out.thing 1).trans rfl
  go_wp2
  all_goals first | omega | skip
  clear t1
  go_loopw [54] (fun v54 wr => ∃ i : Nat, i <= ni /\ v54 = .int .i64 (i : Int) /\ Hid (((t.items.take i).all fun y => standsB y.kind sec) = true) /\ Hid (RStG w t ai ni ci va n vc p wr)) (fun v54 wr => ni - (intOf v54).toNat)
  case atStart => exact ⟨0, by omega, rfl, (by show _ = _; simp), hS⟩
  case round =>
   clear hS
   obtain ⟨i, hi, rfl, hall, hS⟩ := hrel
   by_cases hlt : i < ni
   ·obtain ⟨x, hx⟩ : ∃ x, t.items[i]? = some x := ⟨t.items[i]'(by rw [<- hni.out]; exact hlt), List.getElem?_eq_getElem _⟩
    obtain ⟨q, rfl, hq, xa, xn, xc, hI⟩ := lie_at hS.out.items hx
    obtain ⟨c0, c1, c2, c3, c4, c5, c6, c7, c8, c9⟩ := hI
    have hlt2 : (i : Int) < (ni : Int) := by omega
    have hst := Hid.intro (fun w1 => stands_any x.kind sec w1)
    have hal2 := Hid.intro (fun o => hS.out.below (below_alloc wr o))
    have r0 := fun o => (cell_blockT (hal2.out o).res 0).trans rfl
    have r1 := fun o => (cell_blockT (hal2.out o).res 1).trans rfl
    have r2 := fun o => (cell_blockT (hal2.out o).res 2).trans rfl
    have r3 := fun o => (cell_blockT (hal2.out o).res 3).trans rfl
    have r4 := fun o => (cell_blockT (hal2.out o).res 4).trans rfl
    have r5 := fun o => (cell_blockT (hal2.out o).res 5).trans rfl
    have rf := fun o j => frozen_of_row (wr.alloc o) (w.heap.size + 1) j _ 37 (hal2.out o).res
    cases hsb : standsB x.kind sec
    ·rw [hsb] at hst
     have hbadH := Hid.intro (stands_bad hx hsb)
     clear hx hsb
     go_wp2_with (go_at_call 23; (with_reducible refine (hst.out _).mono ?_); rintro e w5 ⟨rfl, rfl⟩)
     all_goals first | omega | skip
     have hal3 := hal2.out (.cells (itmCells x (.slice xa xn xc)) 33)
     have hbs := hal3.bel.size
     obtain ⟨s1, s2⟩ := six_set hal3.res (.int .i64 0) (.slice none 0 0) (.string ⟨#[]⟩) (.slice none 0 0) (.int .u32 0) (.int .i64 0)
     have hB9 := (hal3.bel).grown s2 (by omega) (fun j hj => by cases hj; omega)
     generalize (((((((wr.alloc (.cells (itmCells x (.slice xa xn xc)) 33)).setCell ⟨w.heap.size + 1, 0, none⟩ (.int .i64 0)).setCell ⟨w.heap.size + 1, 1, none⟩ (.slice none 0 0)).setCell ⟨w.heap.size + 1, 2, none⟩ (.string ⟨#[]⟩)).setCell ⟨w.heap.size + 1, 3, none⟩ (.slice none 0 0)).setCell ⟨w.heap.size + 1, 4, none⟩ (.int .u32 0)).setCell ⟨w.heap.size + 1, 5, none⟩ (.int .i64 0)) = w9 at s1 s2 hB9 ⊢
     obtain ⟨k0, k1, k2, k3, k4, k5⟩ := thing_ret (w8 := w9) s1
     refine bodyPost_ret (by simp [results, Tryz.results17, go_sem, k0, k1, k2, k3, k4, k5]; try rfl) rfl ?_
     rw [hbadH.out]
     exact ⟨hB9, rfl⟩
    ·rw [hsb] at hst
     have hnext : Hid (((t.items.take (i + 1)).all fun y => standsB y.kind sec) = true) := (by show _ = _; rw [stands_take hx, hall.out, hsb]; rfl)
     clear hx hsb
     go_wp2_with (go_at_call 23; (with_reducible refine (hst.out _).mono ?_); rintro e w5 ⟨rfl, rfl⟩)
     all_goals first | omega | skip
     go_roundw
     case rel => exact ⟨i + 1, by omega, by go_num, hnext, Hid.intro (hal2.out _)⟩
     case measure => simp [intOf]; omega
   ·have hin : i = ni := by omega
    have hokH : Hid (standsT t sec = .ok t) := stands_all (by rw [<- hni.out]; omega) hall.out
    subst hin
    have hlt3 : ¬ ((i : Int) < (i : Int)) := by omega
    obtain ⟨t0, t1, t2, t3, t4, t5⟩ := six_read hS.out.thing
    obtain ⟨r0, r1, r2, r3, r4, r5⟩ := six_read hS.out.res
    have rf := fun j => frozen_of_row wr (w.heap.size + 1) j _ 37 hS.out.res
    go_wp2
    all_goals first | omega | skip
    obtain ⟨s1, s2⟩ := six_set hS.out.res (.int .i64 t.kind) (.slice ai i ci) (.string (str t.name)) (.slice va n vc) (.int .u32 t.e.const) (.int .i64 t.sec)
    have hbs := hS.out.bel.size
    have hB9 := (hS.out.bel).grown s2 (by omega) (fun j hj => by cases hj; omega)
    have hit9 := items_res hS.out.items hS.out.res s2
    have htm9 := tmLies_res hS.out.terms hS.out.res s2
    generalize ((((((wr.setCell ⟨w.heap.size + 1, 0, none⟩ (.int .i64 t.kind)).setCell ⟨w.heap.size + 1, 1, none⟩ (.slice ai i ci)).setCell ⟨w.heap.size + 1, 2, none⟩ (.string (str t.name))).setCell ⟨w.heap.size + 1, 3, none⟩ (.slice va n vc)).setCell ⟨w.heap.size + 1, 4, none⟩ (.int .u32 t.e.const)).setCell ⟨w.heap.size + 1, 5, none⟩ (.int .i64 t.sec)) = w9 at s1 s2 hB9 hit9 htm9 ⊢
    obtain ⟨k0, k1, k2, k3, k4, k5⟩ := thing_ret (w8 := w9) s1
    refine bodyPost_ret (by simp [results, Tryz.results17, go_sem, k0, k1, k2, k3, k4, k5]; try rfl) rfl ?_
    rw [hokH.out]
    exact ⟨hB9, .slice ai i ci, va, n, vc, rfl, hit9, hn.out, htm9⟩
end Go.Proofs.YtlkmegchaeokgaaGreatDoor
namespace Go.Proofs.YtlkmegchaeokgaaGreatDoor
open Go.ChangeShapes Go.WideShapes Go.ChangeAt Go.RowKit
set_option linter.unusedVariables false
set_option maxRecDepth 100000
theorem read_nil (lb : List UInt8) (a : Option Addr) (n0 c : Nat) (sec : Int) (w : World) :
  Calls Tryz.prog 17 #[.agg #[.string (str lb), .string (str []), .slice a n0 c], .int .i64 sec] w fun e w' => Below w.heap.size w w' /\ ThOut w' (.ok thgE) e := by
 have hne : ((str []).toList == []) = true := by rw [str_toList]; rfl
 generalize str [] = S at hne ⊢
 go_enter Tryz.func17, Tryz.ntmps17
 go_wp2
 all_goals first | omega | skip
 have hB : Below w.heap.size w ((w.alloc (.cells #[.string (str lb), .string S, .slice a n0 c] 49)).alloc (.cells #[.int .i64 0, .slice none 0 0, .string ⟨#[]⟩, .slice none 0 0, .int .u32 0, .int .i64 0] 37)) := (below_alloc w _).alloc (by simp) _
 have hs1 : (w.alloc (.cells #[.string (str lb), .string S, .slice a n0 c] 49)).heap.size = w.heap.size + 1 := by simp
 have hq := heap_alloc_new (w.alloc (.cells #[.string (str lb), .string S, .slice a n0 c] 49)) (.cells #[.int .i64 0, .slice none 0 0, .string ⟨#[]⟩, .slice none 0 0, .int .u32 0, .int .i64 0] 37)
 rw [hs1] at hq
 generalize ((w.alloc (.cells #[.string (str lb), .string S, .slice a n0 c] 49)).alloc (.cells #[.int .i64 0, .slice none 0 0, .string ⟨#[]⟩, .slice none 0 0, .int .u32 0, .int .i64 0] 37)) = w9 at hB hq ⊢
 obtain ⟨k0, k1, k2, k3, k4, k5⟩ := thing_ret (w8 := w9) hq
 refine bodyPost_ret (by simp [results, Tryz.results17, go_sem, k0, k1, k2, k3, k4, k5]; try rfl) rfl ?_
 exact ⟨hB, .slice none 0 0, none, 0, 0, rfl, .inl ⟨rfl, rfl⟩, rfl, TmLies.nil _ _⟩
theorem read_none (lb s : List UInt8) (hs0 : s ≠ []) (hd : s ∉ dirs) (hf : findN s = 0) (a : Option Addr) (n0 c : Nat) (sec : Int) (w : World) (hT : Tab w) :
  Calls Tryz.prog 17 #[.agg #[.string (str lb), .string (str s), .slice a n0 c], .int .i64 sec] w fun e w' => Below w.heap.size w w' /\ ThOut w' (.error 20) e := by
 have hne : ((str s).toList == []) = false := by rw [str_toList]; exact beq_false_of_ne hs0
 have hnl : ∀ w, (binOp .eql 89 .nilIface .nilIface).run Tryz.prog w = .ok (.bool true) w := nil_none
 have hro := Hid.intro (readerOf_none s hd hf ((w.alloc (.cells #[.string (str lb), .string (str s), .slice a n0 c] 49)).alloc (.cells #[.int .i64 0, .slice none 0 0, .string ⟨#[]⟩, .slice none 0 0, .int .u32 0, .int .i64 0] 37)) ((hT.alloc _).alloc _))
 clear hT hf hd hs0
 generalize str s = S at hne hro ⊢
 go_enter Tryz.func17, Tryz.ntmps17
 go_wp2_with (go_at_call 42; (with_reducible refine (hro.out).mono ?_); rintro e w1 ⟨hw1, rfl⟩; subst hw1)
 all_goals first | omega | skip
 have hB : Below w.heap.size w ((w.alloc (.cells #[.string (str lb), .string S, .slice a n0 c] 49)).alloc (.cells #[.int .i64 0, .slice none 0 0, .string ⟨#[]⟩, .slice none 0 0, .int .u32 0, .int .i64 0] 37)) := (below_alloc w _).alloc (by simp) _
 have hs1 : (w.alloc (.cells #[.string (str lb), .string S, .slice a n0 c] 49)).heap.size = w.heap.size + 1 := by simp
 have hq := heap_alloc_new (w.alloc (.cells #[.string (str lb), .string S, .slice a n0 c] 49)) (.cells #[.int .i64 0, .slice none 0 0, .string ⟨#[]⟩, .slice none 0 0, .int .u32 0, .int .i64 0] 37)
 rw [hs1] at hq
 generalize ((w.alloc (.cells #[.string (str lb), .string S, .slice a n0 c] 49)).alloc (.cells #[.int .i64 0, .slice none 0 0, .string ⟨#[]⟩, .slice none 0 0, .int .u32 0, .int .i64 0] 37)) = w9 at hB hq ⊢
 obtain ⟨k0, k1, k2, k3, k4, k5⟩ := thing_ret (w8 := w9) hq
 refine bodyPost_ret (by simp [results, Tryz.results17, go_sem, k0, k1, k2, k3, k4, k5]; try rfl) rfl ?_
 exact ⟨hB, rfl⟩
theorem args_low {w w1 : World} {a : Option Addr} {args : List (List Tok)} {b : Nat} (hA : ArgsIn w.heap.size w a args) (h1 : Below w.heap.size w w1) (hb : w.heap.size + 2 <= b) (hlt : b < w1.heap.size) : ArgsIn b w1 a args :=
 (hA.below h1).mono (by omega) (by omega)
def singR (R : Except Int Itm) : Except Int Thg := match R with | .error k => .error k | .ok x => .ok ⟨1, [x], [], linE, 0⟩
def sevR (R : Except Int (List Itm)) : Except Int Thg := match R with | .error k => .error k | .ok l => .ok ⟨2, l, [], linE, 0⟩
theorem singF_err {kind : Int} {args : List (List Tok)} {k : Int} (h : singF kind args = .error k) : k = 20 ∨ k = 21 := by
 cases args with
 | nil => cases h
 | cons x r => exact itOf_err h
theorem itsF_err {kind : Int} : ∀ {args : List (List Tok)} {k : Int}, itsF kind args = .error k -> k = 20 ∨ k = 21 := by
 intro args
 induction args with
 | nil => intro k h; cases h
 | cons x r ih =>
  intro k h
  rw [itsF] at h
  split at h
  ·rename_i hx; cases h; exact itOf_err hx
  ·split at h
   ·rename_i hx; cases h; exact ih hx
   ·cases h
theorem read_sing (kind : Int) (hk : kind ≠ 6) (m : Nat) (hm : m <= 1) (lb s : List UInt8) (hs0 : s ≠ []) (hro : ∀ w1 : World, Calls Tryz.prog 42 #[.string (str s)] w1 fun e w' => Below w1.heap.size w1 w' /\ ∃ b, w1.heap.size <= b /\ e = .returned (.tuple #[.iface 119 (.pointer (some ⟨b, 0, none⟩)), .int .i64 m, .int .i64 m]) /\ w'.heap[b]? = some (.cells (itmCells { itmE with kind := kind } (.slice none 0 0)) 121 (0, 0)))
  (a : Option Addr) (c : Nat) (args : List (List Tok)) (hal : args.length <= 1100000) (sec : Int) (w : World) (hA : ArgsIn w.heap.size w a args) :
  Calls Tryz.prog 17 #[.agg #[.string (str lb), .string (str s), .slice a args.length c], .int .i64 sec] w fun e w' => Below w.heap.size w w' /\ ThOut w' (singThg kind m args sec) e := by
 have hro0 : ∀ w1, Below w.heap.size w w1 -> Calls Tryz.prog 42 #[.string (str s)] w1 fun e w2 => Below w1.heap.size w1 w2 /\ ∃ b, w1.heap.size <= b /\ e = .returned (.tuple #[.iface 119 (.pointer (some ⟨b, 0, none⟩)), .int .i64 m, .int .i64 m]) /\ (b < w2.heap.size /\ w2.heap[b]? = some (.cells (itmCells { itmE with kind := kind } (.slice none 0 0)) 121 (0, 0))) := fun w1 _ => (hro w1).mono fun e w2 ⟨h1, b, h2, h3, h4⟩ => ⟨h1, b, h2, h3, blk_lt h4, h4⟩
 by_cases hl : args.length = m
 ·have hF : singThg kind m args sec = andStands (singR (singF kind args)) sec := by
   unfold singThg
   rw [if_neg (by omega)]
   cases singF kind args <;> rfl
  rw [hF]
  refine readG_single lb s hs0 a c args.length hal sec w m m (by omega) (by omega) _ (fun t w1 b => ∃ x, t = ⟨1, [x], [], linE, 0⟩ /\ x.e = linE /\ w1.heap[b]? = some (.cells (itmCells x (.slice none 0 0)) 121 (0, 0))) _ hro0 ?_ ?_ ?_ ?_
  ·intro w1 b h1 h2 h3 h4
   refine (singRead_any b kind hk a c args (by omega) w1 (args_low hA h1 h2 h3) h4).mono ?_
   rintro e w2 ⟨g1, g2⟩
   refine ⟨g1, ?_⟩
   cases hs : singF kind args with
   | error k => rw [hs] at g2; exact g2
   | ok x => rw [hs] at g2; exact ⟨g2.1, x, rfl, g2.2.1, g2.2.2⟩
  ·rintro t w1 b ⟨x, rfl, hx, hh⟩
   refine (said_single b x none 0 0 w1 hh).mono ?_
   rintro e w2 ⟨g1, q, hq, rfl, hqh⟩
   refine ⟨g1, _, _, _, _, _, _, rfl, .inr ⟨q, 1, rfl, blk_lt hqh, fun i y hi => ?_⟩, rfl, TmLies.nil _ _⟩
   match i, hi with
   | 0, hi => cases hi; exact ⟨none, 0, 0, itAt_row hqh, by rw [hx]; rfl, by rw [hx]; exact TmLies.nil _ _⟩
   | i + 1, hi => simp at hi
  ·intro k hk2
   cases hs : singF kind args with
   | error k' => rw [hs] at hk2; cases hk2; rcases singF_err hs with h | h <;> omega
   | ok x => rw [hs] at hk2; cases hk2
  ·intro t ht
   cases hs : singF kind args with
   | error k' => rw [hs] at ht; cases ht
   | ok x => rw [hs] at ht; cases ht; simp
 ·have hF : singThg kind m args sec = .error 20 := by unfold singThg; rw [if_pos hl]
  rw [hF]
  exact readLen_single lb s hs0 a c args.length hal sec w m m (by omega) _ hro0
theorem read_sev (kind : Int) (hk : kind = 5 ∨ kind = 6) (lb s : List UInt8) (hs0 : s ≠ []) (hro : ∀ w1 : World, Calls Tryz.prog 42 #[.string (str s)] w1 fun e w' => Below w1.heap.size w1 w' /\ ∃ b, w1.heap.size <= b /\ e = .returned (.tuple #[.iface 122 (.pointer (some ⟨b, 0, none⟩)), .int .i64 1, .int .i64 9223372036854775807]) /\ w'.heap[b]? = some (.cells #[.int .i64 kind, .slice none 0 0] 124 (0, 0)))
  (a : Option Addr) (c : Nat) (args : List (List Tok)) (hal : args.length <= 1100000) (hfew : FewA args) (sec : Int) (w : World) (hA : ArgsIn w.heap.size w a args) :
  Calls Tryz.prog 17 #[.agg #[.string (str lb), .string (str s), .slice a args.length c], .int .i64 sec] w fun e w' => Below w.heap.size w w' /\ ThOut w' (sevThg kind args sec) e := by
 have hro0 : ∀ w1, Below w.heap.size w w1 -> Calls Tryz.prog 42 #[.string (str s)] w1 fun e w2 => Below w1.heap.size w1 w2 /\ ∃ b, w1.heap.size <= b /\ e = .returned (.tuple #[.iface 122 (.pointer (some ⟨b, 0, none⟩)), .int .i64 1, .int .i64 9223372036854775807]) /\ (b < w2.heap.size /\ w2.heap[b]? = some (.cells #[.int .i64 kind, .slice none 0 0] 124 (0, 0))) := fun w1 _ => (hro w1).mono fun e w2 ⟨h1, b, h2, h3, h4⟩ => ⟨h1, b, h2, h3, blk_lt h4, h4⟩
 by_cases hl : args.length = 0
 ·have hF : sevThg kind args sec = .error 20 := by unfold sevThg; rw [if_pos hl]
  rw [hF]
  exact readLen_several lb s hs0 a c args.length hal sec w 1 9223372036854775807 (by omega) _ hro0
 ·have hF : sevThg kind args sec = andStands (sevR (itsF kind args)) sec := by
   unfold sevThg
   rw [if_neg hl]
   cases itsF kind args <;> rfl
  rw [hF]
  refine readG_several lb s hs0 a c args.length hal sec w 1 9223372036854775807 (by omega) (by omega) _ (fun t w1 b => ∃ p a1 L c1, t = ⟨2, p.map (·.1), [], linE, 0⟩ /\ w1.heap[b]? = some (.cells #[.int .i64 kind, .slice a1 L c1] 124 (0, 0)) /\ ItOwn (b + 1) w1 (.slice a1 L c1) p) _ hro0 ?_ ?_ ?_ ?_
  ·intro w1 b h1 h2 h3 h4
   have key : Calls Tryz.prog 159 #[.pointer (some ⟨b, 0, none⟩), .slice a args.length c] w1 fun e w' => Below b w1 w' /\ SvOut b kind (itsF kind args) e w' := by
    rcases hk with rfl | rfl
    ·exact sevRead_5 b a c args hal w1 (args_low hA h1 h2 h3) h4
    ·exact sevRead_6 b a c args hal w1 (args_low hA h1 h2 h3) h4
   refine key.mono ?_
   rintro e w2 ⟨g1, g2⟩
   refine ⟨g1, ?_⟩
   cases hs : itsF kind args with
   | error k => rw [hs] at g2; exact g2
   | ok l =>
    rw [hs] at g2
    obtain ⟨g3, p, a1, L, c1, g4, g5, g6⟩ := g2
    exact ⟨g3, p, a1, L, c1, by rw [g4], g5, g6⟩
  ·rintro t w1 b ⟨p, a1, L, c1, rfl, hh, ho⟩
   refine (said_several b kind a1 L c1 w1 hh).mono ?_
   rintro e w2 ⟨g1, rfl⟩
   exact ⟨g1, a1, L, c1, none, 0, 0, rfl, ho.lies.below g1, rfl, TmLies.nil _ _⟩
  ·intro k hk2
   cases hs : itsF kind args with
   | error k' => rw [hs] at hk2; cases hk2; rcases itsF_err hs with h | h <;> omega
   | ok x => rw [hs] at hk2; cases hk2
  ·intro t ht
   cases hs : itsF kind args with
   | error k' => rw [hs] at ht; cases ht
   | ok l =>
    rw [hs] at ht
    cases ht
    have := (itsF_kind hs).1
    show l.length <= _
    omega
theorem read_equ (lb : List UInt8) (a : Option Addr) (c : Nat) (args : List (List Tok)) (hal : args.length <= 1100000) (sec : Int) (w : World) (hA : ArgsIn w.heap.size w a args) :
  Calls Tryz.prog 17 #[.agg #[.string (str lb), .string (str sEqu), .slice a args.length c], .int .i64 sec] w fun e w' => Below w.heap.size w w' /\ ThOut w' (equThg args) e := by
 have hro0 : ∀ w1, Below w.heap.size w w1 -> Calls Tryz.prog 42 #[.string (str sEqu)] w1 fun e w2 => Below w1.heap.size w1 w2 /\ ∃ b, w1.heap.size <= b /\ e = .returned (.tuple #[.iface 125 (.pointer (some ⟨b, 0, none⟩)), .int .i64 2, .int .i64 2]) /\ (b < w2.heap.size /\ w2.heap[b]? = some (.cells #[.string (str []), .slice none 0 0, .int .u32 0] 127 (0, 0))) := fun w1 _ => (readerOf_equ w1).mono fun e w2 ⟨h1, b, h2, h3, h4⟩ => ⟨h1, b, h2, h3, blk_lt h4, h4⟩
 by_cases hl : args.length = 2
 ·obtain ⟨x0, x1, rfl⟩ : ∃ x0 x1, args = [x0, x1] := by match args, hl with | [x, y], _ => exact ⟨x, y, rfl⟩
  have hF : equThg [x0, x1] = andStands (equF x0 x1) sec := by
   show equF x0 x1 = _
   unfold equF
   cases nameF x0 with
   | error k => rfl
   | ok s => cases parseF x1 <;> rfl
  rw [hF]
  refine readG_equation lb sEqu (by decide) a c 2 (by omega) sec w 2 2 (by omega) (by omega) _ (fun t w1 b => ∃ s y, t = ⟨3, [], s, y, 0⟩ /\ ∃ va n vc, w1.heap[b]? = some (.cells #[.string (str s), .slice va n vc, .int .u32 y.const] 127 (0, 0)) /\ w1.ownsRow (b + 1) 61 2 (.slice va n vc) y.terms.length (rowT y.terms)) _ hro0 ?_ ?_ ?_ ?_
  ·intro w1 b h1 h2 h3 h4
   refine (equRead_any b a c x0 x1 w1 (args_low hA h1 h2 h3) h4).mono ?_
   rintro e w2 ⟨g1, g2⟩
   refine ⟨g1, ?_⟩
   cases hs : equF x0 x1 with
   | error k => rw [hs] at g2; exact g2
   | ok t => rw [hs] at g2; exact g2
  ·rintro t w1 b ⟨s, y, rfl, va, n, vc, hh, ho⟩
   refine (said_equation b s va n vc y.const w1 hh).mono ?_
   rintro e w2 ⟨g1, rfl⟩
   have hnl := own_len ho
   subst hnl
   exact ⟨g1, none, 0, 0, va, _, vc, rfl, .inl ⟨rfl, rfl⟩, rfl, (own_tmLies ho).below g1 (Nat.le_refl _)⟩
  ·intro k hk2
   unfold equF at hk2
   split at hk2
   ·rename_i h; cases hk2; rw [nameF_err h]; decide
   ·split at hk2
    ·rename_i h; cases hk2; rcases parseF_err h with h | h <;> omega
    ·cases hk2
  ·intro t ht
   unfold equF at ht
   split at ht
   ·cases ht
   ·split at ht
    ·cases ht
    ·cases ht; simp
 ·have hF : equThg args = .error 20 := by
   match args, hl with
   | [], _ => rfl
   | [x], _ => rfl
   | [x, y], hl => exact absurd rfl hl
   | x :: y :: z :: r, _ => rfl
  rw [hF]
  exact readLen_equation lb sEqu (by decide) a c args.length hal sec w 2 2 (by omega) _ hro0
theorem read_glo (lb : List UInt8) (a : Option Addr) (c : Nat) (args : List (List Tok)) (hal : args.length <= 1100000) (sec : Int) (w : World) (hA : ArgsIn w.heap.size w a args) :
  Calls Tryz.prog 17 #[.agg #[.string (str lb), .string (str sGlobal), .slice a args.length c], .int .i64 sec] w fun e w' => Below w.heap.size w w' /\ ThOut w' (gloThg args) e := by
 have hro0 : ∀ w1, Below w.heap.size w w1 -> Calls Tryz.prog 42 #[.string (str sGlobal)] w1 fun e w2 => Below w1.heap.size w1 w2 /\ ∃ b, w1.heap.size <= b /\ e = .returned (.tuple #[.iface 128 (.pointer (some ⟨b, 0, none⟩)), .int .i64 1, .int .i64 1]) /\ (b < w2.heap.size /\ w2.heap[b]? = some (.cells #[.string (str [])] 130 (0, 0))) := fun w1 _ => (readerOf_global w1).mono fun e w2 ⟨h1, b, h2, h3, h4⟩ => ⟨h1, b, h2, h3, blk_lt h4, h4⟩
 by_cases hl : args.length = 1
 ·obtain ⟨x0, rfl⟩ : ∃ x0, args = [x0] := by match args, hl with | [x], _ => exact ⟨x, rfl⟩
  have hF : gloThg [x0] = andStands (gloF x0) sec := by
   show gloF x0 = _
   unfold gloF
   cases nameF x0 <;> rfl
  rw [hF]
  refine readG_export lb sGlobal (by decide) a c 1 (by omega) sec w 1 1 (by omega) (by omega) _ (fun t w1 b => ∃ s, t = ⟨4, [], s, linE, 0⟩ /\ w1.heap[b]? = some (.cells #[.string (str s)] 130 (0, 0))) _ hro0 ?_ ?_ ?_ ?_
  ·intro w1 b h1 h2 h3 h4
   refine (exportRead_any b a c x0 w1 (args_low hA h1 h2 h3) h4).mono ?_
   rintro e w2 ⟨g1, g2⟩
   refine ⟨g1, ?_⟩
   unfold gloF
   cases hs : nameF x0 with
   | error k => rw [hs] at g2; exact g2
   | ok s => rw [hs] at g2; exact ⟨g2.1, s, rfl, g2.2⟩
  ·rintro t w1 b ⟨s, rfl, hh⟩
   refine (said_export b s w1 hh).mono ?_
   rintro e w2 ⟨g1, rfl⟩
   exact ⟨g1, none, 0, 0, none, 0, 0, rfl, .inl ⟨rfl, rfl⟩, rfl, TmLies.nil _ _⟩
  ·intro k hk2
   unfold gloF at hk2
   split at hk2
   ·rename_i h; cases hk2; rw [nameF_err h]; decide
   ·cases hk2
  ·intro t ht
   unfold gloF at ht
   split at ht
   ·cases ht
   ·cases ht; simp
 ·have hF : gloThg args = .error 20 := by
   match args, hl with
   | [], _ => rfl
   | [x], hl => exact absurd rfl hl
   | x :: y :: r, _ => rfl
  rw [hF]
  exact readLen_export lb sGlobal (by decide) a c args.length hal sec w 1 1 (by omega) _ hro0
theorem read_sec (lb : List UInt8) (a : Option Addr) (c : Nat) (args : List (List Tok)) (hal : args.length <= 1100000) (sec : Int) (w : World) (hA : ArgsIn w.heap.size w a args) :
  Calls Tryz.prog 17 #[.agg #[.string (str lb), .string (str sSection), .slice a args.length c], .int .i64 sec] w fun e w' => Below w.heap.size w w' /\ ThOut w' (secThg args) e := by
 have hro0 : ∀ w1, Below w.heap.size w w1 -> Calls Tryz.prog 42 #[.string (str sSection)] w1 fun e w2 => Below w1.heap.size w1 w2 /\ ∃ b, w1.heap.size <= b /\ e = .returned (.tuple #[.iface 131 (.pointer (some ⟨b, 0, none⟩)), .int .i64 1, .int .i64 1]) /\ (b < w2.heap.size /\ w2.heap[b]? = some (.cells #[.int .i64 0] 133 (0, 0))) := fun w1 _ => (readerOf_section w1).mono fun e w2 ⟨h1, b, h2, h3, h4⟩ => ⟨h1, b, h2, h3, blk_lt h4, h4⟩
 by_cases hl : args.length = 1
 ·obtain ⟨x0, rfl⟩ : ∃ x0, args = [x0] := by match args, hl with | [x], _ => exact ⟨x, rfl⟩
  have hsf : ∀ t, secF x0 = .ok t -> t = ⟨5, [], [], linE, t.sec⟩ := fun t ht => by
   unfold secF at ht
   split at ht
   ·cases ht; rfl
   ·split at ht
    ·cases ht; rfl
    ·cases ht
  have hF : secThg [x0] = andStands (secF x0) sec := by
   show secF x0 = _
   cases hs : secF x0 with
   | error k => rfl
   | ok t => rw [hsf t hs]; rfl
  rw [hF]
  refine readG_segment lb sSection (by decide) a c 1 (by omega) sec w 1 1 (by omega) (by omega) _ (fun t w1 b => t = ⟨5, [], [], linE, t.sec⟩ /\ w1.heap[b]? = some (.cells #[.int .i64 t.sec] 133 (0, 0))) _ hro0 ?_ ?_ ?_ ?_
  ·intro w1 b h1 h2 h3 h4
   refine (segmentRead_any b a c x0 w1 (args_low hA h1 h2 h3) h4).mono ?_
   rintro e w2 ⟨g1, g2⟩
   refine ⟨g1, ?_⟩
   cases hs : secF x0 with
   | error k => rw [hs] at g2; exact g2
   | ok t => rw [hs] at g2; exact g2
  ·rintro t w1 b ⟨ht, hh⟩
   refine (said_segment b t.sec w1 hh).mono ?_
   rintro e w2 ⟨g1, rfl⟩
   rw [ht]
   exact ⟨g1, none, 0, 0, none, 0, 0, rfl, .inl ⟨rfl, rfl⟩, rfl, TmLies.nil _ _⟩
  ·intro k hk2
   unfold secF at hk2
   split at hk2
   ·cases hk2
   ·split at hk2
    ·cases hk2
    ·cases hk2; decide
  ·intro t ht
   rw [hsf t ht]
   simp
 ·have hF : secThg args = .error 20 := by
   match args, hl with
   | [], _ => rfl
   | [x], hl => exact absurd rfl hl
   | x :: y :: r, _ => rfl
  rw [hF]
  exact readLen_segment lb sSection (by decide) a c args.length hal sec w 1 1 (by omega) _ hro0
theorem read_any (lb s : List UInt8) (a : Option Addr) (c : Nat) (args : List (List Tok)) (hal : args.length <= 1100000) (hfew : FewA args) (sec : Int) (w : World) (hA : ArgsIn w.heap.size w a args) (hT : Tab w) :
  Calls Tryz.prog 17 #[.agg #[.string (str lb), .string (str s), .slice a args.length c], .int .i64 sec] w fun e w' => Below w.heap.size w w' /\ ThOut w' (readF s args sec) e := by
 unfold readF
 by_cases h0 : s = []
 ·rw [if_pos h0, h0]; exact read_nil lb a args.length c sec w
 rw [if_neg h0]
 by_cases h1 : s = sAlign
 ·rw [if_pos h1, h1]; exact read_sing 3 (by decide) 1 (by omega) lb sAlign (by decide) readerOf_align a c args hal sec w hA
 rw [if_neg h1]
 by_cases h2 : s = sPool
 ·rw [if_pos h2, h2]; exact read_sing 4 (by decide) 0 (by omega) lb sPool (by decide) readerOf_pool a c args hal sec w hA
 rw [if_neg h2]
 by_cases h3 : s = sByte
 ·rw [if_pos h3, h3]; exact read_sev 5 (.inl rfl) lb sByte (by decide) readerOf_byte a c args hal hfew sec w hA
 rw [if_neg h3]
 by_cases h4 : s = sWord
 ·rw [if_pos h4, h4]; exact read_sev 6 (.inr rfl) lb sWord (by decide) readerOf_word a c args hal hfew sec w hA
 rw [if_neg h4]
 by_cases h5 : s = sSpace
 ·rw [if_pos h5, h5]; exact read_sing 7 (by decide) 1 (by omega) lb sSpace (by decide) readerOf_space a c args hal sec w hA
 rw [if_neg h5]
 by_cases h6 : s = sEqu
 ·rw [if_pos h6, h6]; exact read_equ lb a c args hal sec w hA
 rw [if_neg h6]
 by_cases h7 : s = sGlobal
 ·rw [if_pos h7, h7]; exact read_glo lb a c args hal sec w hA
 rw [if_neg h7]
 by_cases h8 : s = sSection
 ·rw [if_pos h8, h8]; exact read_sec lb a c args hal sec w hA
 rw [if_neg h8]
 have hd : s ∉ dirs := by
  simp only [dirs, List.mem_cons, List.not_mem_nil, or_false, not_or]
  exact ⟨h1, h2, h3, h4, h5, h6, h7, h8⟩
 by_cases h9 : findN s = 0
 ·rw [if_pos h9]; exact read_none lb s h0 hd h9 a args.length c sec w hT
 rw [if_neg h9]
 have hr := findN_range s
 exact read_op lb s hd (by omega) (by omega) h0 a c args hal sec w hA hT
end Go.Proofs.YtlkmegchaeokgaaGreatDoor
