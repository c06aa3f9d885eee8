/-
  NARROWER THAN 'FOR EVERY INPUT', by the rows' own cells (each row's printed sentence says how): DecodeNumbers: laid · DecodeDecodes: laid · DecodeBack: laid · DecodeAll: laid · DecodeRow: laid.
  DERIVED. THE GIVEN ROWS OF THIS SEAT. 5 by the template 'for every input the law returns true; each argument reads behind the call as it read before'; 0 by the template 'total and deterministic' (their statements: YthboapfbgdcdoaaDoorTotals.lean).
  GIVEN WITH THE SEED: the statements are not yours to turn. If you find one false, say at which input.
  Laid BY PROGRAM, IN A SANDBOX (cutbox-rows.mjs): the forced cells as the released guide's own fill.sh prints them over the translation efadcb76e74487c5… (all of the seat's roots in one cut). By AI agents, Wed Nov 11 2026. No macro, syntax, notation, axiom, sorry.
-/
import Derived.Test.YthboapfbgdcdoaaDoorChecked
import GoSem.Claim
import GoSem.ClaimJoined
import GoSem.ClaimMapViews
import Derived.JoinedTies
import Derived.KernelRfl
namespace Go.Proofs.YthboapfbgdcdoaaDoor
/- THE CELL 'sum', in the pinned program and in every row, IS THE sha256 OF THE DUMP (.gsa) THAT YthboapfbgdcdoaaDoorProg.lean LOADS. Nothing in Lean hashes anything: it is a label: what it is worth is what the hold of that sum in a sandbox is worth. -/
noncomputable def Tryd.pinned : Pinned := { name := "ythboapfbgdcdoaadoor", sum := "efadcb76e74487c5195995ff4cd9f0d51102357bd65eb91adfba1fc1ba81b3b9", checked := Tryd.checked }
namespace Rows
def none {H : Type} : Left H := { results := [], args := [] }

/- WHAT THE LISTED PACKAGE-LEVEL VARIABLES READ AS WHEN THE CALL BEGINS. Each datum BY PROGRAM (the guide's laid-datum.mjs) off the statement by which the dump's own 'gosem.cut.vars' lays the variable. In a bare row this is a premise. The card (YthboapfbgdcdoaaDoorCards.lean) ties it to the program's text. -/
def laid_spandrel_isa_ops {H : Type} : DataW H := .agg [.agg [.lit (.string [110, 111, 112]), .lit (.int .u8 0), .lit (.int .i64 1)], .agg [.lit (.string [104, 97, 108, 116]), .lit (.int .u8 1), .lit (.int .i64 1)], .agg [.lit (.string [114, 101, 116]), .lit (.int .u8 2), .lit (.int .i64 1)], .agg [.lit (.string [112, 114, 105, 110, 116]), .lit (.int .u8 3), .lit (.int .i64 2)], .agg [.lit (.string [105, 110]), .lit (.int .u8 4), .lit (.int .i64 2)], .agg [.lit (.string [112, 117, 115, 104]), .lit (.int .u8 5), .lit (.int .i64 2)], .agg [.lit (.string [112, 111, 112]), .lit (.int .u8 6), .lit (.int .i64 2)], .agg [.lit (.string [106, 114]), .lit (.int .u8 7), .lit (.int .i64 2)], .agg [.lit (.string [110, 101, 103]), .lit (.int .u8 8), .lit (.int .i64 2)], .agg [.lit (.string [110, 111, 116]), .lit (.int .u8 9), .lit (.int .i64 2)], .agg [.lit (.string [122, 116, 117, 114, 110]), .lit (.int .u8 10), .lit (.int .i64 3)], .agg [.lit (.string [122, 99, 111, 110, 106]), .lit (.int .u8 11), .lit (.int .i64 3)], .agg [.lit (.string [109, 111, 118]), .lit (.int .u8 16), .lit (.int .i64 4)], .agg [.lit (.string [97, 100, 100]), .lit (.int .u8 17), .lit (.int .i64 4)], .agg [.lit (.string [115, 117, 98]), .lit (.int .u8 18), .lit (.int .i64 4)], .agg [.lit (.string [109, 117, 108]), .lit (.int .u8 19), .lit (.int .i64 4)], .agg [.lit (.string [100, 105, 118]), .lit (.int .u8 20), .lit (.int .i64 4)], .agg [.lit (.string [97, 110, 100]), .lit (.int .u8 21), .lit (.int .i64 4)], .agg [.lit (.string [111, 114]), .lit (.int .u8 22), .lit (.int .i64 4)], .agg [.lit (.string [120, 111, 114]), .lit (.int .u8 23), .lit (.int .i64 4)], .agg [.lit (.string [115, 104, 108]), .lit (.int .u8 24), .lit (.int .i64 4)], .agg [.lit (.string [115, 104, 114]), .lit (.int .u8 25), .lit (.int .i64 4)], .agg [.lit (.string [108, 116]), .lit (.int .u8 26), .lit (.int .i64 4)], .agg [.lit (.string [101, 113]), .lit (.int .u8 27), .lit (.int .i64 4)], .agg [.lit (.string [108, 100, 98]), .lit (.int .u8 28), .lit (.int .i64 4)], .agg [.lit (.string [108, 100, 119]), .lit (.int .u8 29), .lit (.int .i64 4)], .agg [.lit (.string [108, 100, 109]), .lit (.int .u8 30), .lit (.int .i64 4)], .agg [.lit (.string [115, 116, 109]), .lit (.int .u8 31), .lit (.int .i64 4)], .agg [.lit (.string [122, 109, 111, 118]), .lit (.int .u8 32), .lit (.int .i64 5)], .agg [.lit (.string [122, 97, 100, 100]), .lit (.int .u8 33), .lit (.int .i64 5)], .agg [.lit (.string [122, 115, 117, 98]), .lit (.int .u8 34), .lit (.int .i64 5)], .agg [.lit (.string [122, 109, 117, 108]), .lit (.int .u8 35), .lit (.int .i64 5)], .agg [.lit (.string [122, 114, 101]), .lit (.int .u8 36), .lit (.int .i64 6)], .agg [.lit (.string [122, 105, 109]), .lit (.int .u8 37), .lit (.int .i64 6)], .agg [.lit (.string [122, 115, 101, 116]), .lit (.int .u8 38), .lit (.int .i64 7)], .agg [.lit (.string [108, 105, 115]), .lit (.int .u8 48), .lit (.int .i64 8)], .agg [.lit (.string [116, 114, 97, 112]), .lit (.int .u8 49), .lit (.int .i64 9)], .agg [.lit (.string [108, 105]), .lit (.int .u8 50), .lit (.int .i64 10)], .agg [.lit (.string [108, 100, 112]), .lit (.int .u8 51), .lit (.int .i64 11)], .agg [.lit (.string [106, 109, 112]), .lit (.int .u8 64), .lit (.int .i64 12)], .agg [.lit (.string [99, 97, 108, 108]), .lit (.int .u8 67), .lit (.int .i64 12)], .agg [.lit (.string [106, 122]), .lit (.int .u8 70), .lit (.int .i64 13)], .agg [.lit (.string [106, 110, 122]), .lit (.int .u8 73), .lit (.int .i64 13)]]
def laid_spandrel_isa_shapes {H : Type} : DataW H := .agg [.agg [.lit (.int .i64 0), .lit (.int .i64 0), .lit (.int .i32 0), .lit (.int .i32 0), .lit (.int .i64 0)], .agg [.lit (.int .i64 0), .lit (.int .i64 0), .lit (.int .i32 0), .lit (.int .i32 0), .lit (.int .i64 1)], .agg [.lit (.int .i64 7), .lit (.int .i64 0), .lit (.int .i32 0), .lit (.int .i32 0), .lit (.int .i64 2)], .agg [.lit (.int .i64 3), .lit (.int .i64 0), .lit (.int .i32 0), .lit (.int .i32 0), .lit (.int .i64 2)], .agg [.lit (.int .i64 7), .lit (.int .i64 7), .lit (.int .i32 0), .lit (.int .i32 0), .lit (.int .i64 2)], .agg [.lit (.int .i64 3), .lit (.int .i64 3), .lit (.int .i32 0), .lit (.int .i32 0), .lit (.int .i64 2)], .agg [.lit (.int .i64 7), .lit (.int .i64 3), .lit (.int .i32 0), .lit (.int .i32 0), .lit (.int .i64 2)], .agg [.lit (.int .i64 3), .lit (.int .i64 7), .lit (.int .i32 0), .lit (.int .i32 7), .lit (.int .i64 3)], .agg [.lit (.int .i64 7), .lit (.int .i64 0), .lit (.int .i32 (-128)), .lit (.int .i32 127), .lit (.int .i64 3)], .agg [.lit (.int .i64 0), .lit (.int .i64 0), .lit (.int .i32 0), .lit (.int .i32 255), .lit (.int .i64 2)], .agg [.lit (.int .i64 7), .lit (.int .i64 0), .lit (.int .i32 (-2147483648)), .lit (.int .i32 2147483647), .lit (.int .i64 6)], .agg [.lit (.int .i64 7), .lit (.int .i64 0), .lit (.int .i32 0), .lit (.int .i32 4095), .lit (.int .i64 4)], .agg [.lit (.int .i64 0), .lit (.int .i64 0), .lit (.int .i32 0), .lit (.int .i32 0), .lit (.int .i64 1)], .agg [.lit (.int .i64 7), .lit (.int .i64 0), .lit (.int .i32 0), .lit (.int .i32 0), .lit (.int .i64 2)]]

/-- 'spandrellaw7.DecodeNumbers': WHATEVER THE INPUT: true; the input reads as it did. -/
def decodeNumbersSpec : ChangeSpec := { name := "decodeNumbers", fn := fun _ => fun
  | [] => { results := [.lit (.bool true)], args := [] }
  | _ => none }
def decodeNumbersRow : OpenClaim := { program := "ythboapfbgdcdoaadoor", sum := "efadcb76e74487c5195995ff4cd9f0d51102357bd65eb91adfba1fc1ba81b3b9", func := "spandrel/spandrellaw7.DecodeNumbers", spec := "decodeNumbers", unfollowed := true, recurses := true, named := ["spandrel/isa.ops", "spandrel/isa.shapes"], apart := false, laid := [("spandrel/isa.ops", laid_spandrel_isa_ops), ("spandrel/isa.shapes", laid_spandrel_isa_shapes)] }
def DecodeNumbersSaid : Prop := decodeNumbersRow.holds Tryd.pinned (OpenSpec.ofChange decodeNumbersSpec)

/-- ITS FALSE NEIGHBOUR: 'it returns false'. Refute it at one input. -/
def decodeNumbersWrong : ChangeSpec := { name := "decodeNumbers", fn := fun _ => fun
  | [] => { results := [.lit (.bool false)], args := [] }
  | _ => none }
def DecodeNumbersWrongFalsely : Prop := decodeNumbersRow.holds Tryd.pinned (OpenSpec.ofChange decodeNumbersWrong)

/-- 'spandrellaw7.DecodeDecodes': WHATEVER THE INPUT: true; the input reads as it did. -/
def decodeDecodesSpec : ChangeSpec := { name := "decodeDecodes", fn := fun _ => fun
  | [d1, d2] => { results := [.lit (.bool true)], args := [d1, d2] }
  | _ => none }
def decodeDecodesRow : OpenClaim := { program := "ythboapfbgdcdoaadoor", sum := "efadcb76e74487c5195995ff4cd9f0d51102357bd65eb91adfba1fc1ba81b3b9", func := "spandrel/spandrellaw7.DecodeDecodes", spec := "decodeDecodes", named := ["spandrel/isa.ops", "spandrel/isa.shapes"], apart := false, laid := [("spandrel/isa.ops", laid_spandrel_isa_ops), ("spandrel/isa.shapes", laid_spandrel_isa_shapes)] }
def DecodeDecodesSaid : Prop := decodeDecodesRow.holds Tryd.pinned (OpenSpec.ofChange decodeDecodesSpec)

/-- ITS FALSE NEIGHBOUR: 'it returns false'. Refute it at one input. -/
def decodeDecodesWrong : ChangeSpec := { name := "decodeDecodes", fn := fun _ => fun
  | [d1, d2] => { results := [.lit (.bool false)], args := [d1, d2] }
  | _ => none }
def DecodeDecodesWrongFalsely : Prop := decodeDecodesRow.holds Tryd.pinned (OpenSpec.ofChange decodeDecodesWrong)

/-- 'spandrellaw7.DecodeBack': WHATEVER THE INPUT: true; the input reads as it did. -/
def decodeBackSpec : ChangeSpec := { name := "decodeBack", fn := fun _ => fun
  | [d1, d2, d3, d4] => { results := [.lit (.bool true)], args := [d1, d2, d3, d4] }
  | _ => none }
def decodeBackRow : OpenClaim := { program := "ythboapfbgdcdoaadoor", sum := "efadcb76e74487c5195995ff4cd9f0d51102357bd65eb91adfba1fc1ba81b3b9", func := "spandrel/spandrellaw7.DecodeBack", spec := "decodeBack", named := ["spandrel/isa.ops", "spandrel/isa.shapes"], apart := false, laid := [("spandrel/isa.ops", laid_spandrel_isa_ops), ("spandrel/isa.shapes", laid_spandrel_isa_shapes)] }
def DecodeBackSaid : Prop := decodeBackRow.holds Tryd.pinned (OpenSpec.ofChange decodeBackSpec)

/-- ITS FALSE NEIGHBOUR: 'it returns false'. Refute it at one input. -/
def decodeBackWrong : ChangeSpec := { name := "decodeBack", fn := fun _ => fun
  | [d1, d2, d3, d4] => { results := [.lit (.bool false)], args := [d1, d2, d3, d4] }
  | _ => none }
def DecodeBackWrongFalsely : Prop := decodeBackRow.holds Tryd.pinned (OpenSpec.ofChange decodeBackWrong)

/-- 'spandrellaw7.DecodeAll': WHATEVER THE INPUT: true; the input reads as it did. -/
def decodeAllSpec : ChangeSpec := { name := "decodeAll", fn := fun _ => fun
  | [d1, d2, d3] => { results := [.lit (.bool true)], args := [d1, d2, d3] }
  | _ => none }
def decodeAllRow : OpenClaim := { program := "ythboapfbgdcdoaadoor", sum := "efadcb76e74487c5195995ff4cd9f0d51102357bd65eb91adfba1fc1ba81b3b9", func := "spandrel/spandrellaw7.DecodeAll", spec := "decodeAll", unfollowed := true, recurses := true, named := ["spandrel/isa.ops", "spandrel/isa.shapes"], apart := false, laid := [("spandrel/isa.ops", laid_spandrel_isa_ops), ("spandrel/isa.shapes", laid_spandrel_isa_shapes)] }
def DecodeAllSaid : Prop := decodeAllRow.holds Tryd.pinned (OpenSpec.ofChange decodeAllSpec)

/-- ITS FALSE NEIGHBOUR: 'it returns false'. Refute it at one input. -/
def decodeAllWrong : ChangeSpec := { name := "decodeAll", fn := fun _ => fun
  | [d1, d2, d3] => { results := [.lit (.bool false)], args := [d1, d2, d3] }
  | _ => none }
def DecodeAllWrongFalsely : Prop := decodeAllRow.holds Tryd.pinned (OpenSpec.ofChange decodeAllWrong)

/-- 'spandrellaw7.DecodeRow': WHATEVER THE INPUT: true; the input reads as it did. -/
def decodeRowSpec : ChangeSpec := { name := "decodeRow", fn := fun _ => fun
  | [d] => { results := [.lit (.bool true)], args := [d] }
  | _ => none }
def decodeRowRow : OpenClaim := { program := "ythboapfbgdcdoaadoor", sum := "efadcb76e74487c5195995ff4cd9f0d51102357bd65eb91adfba1fc1ba81b3b9", func := "spandrel/spandrellaw7.DecodeRow", spec := "decodeRow", unfollowed := true, recurses := true, named := ["spandrel/isa.ops", "spandrel/isa.shapes"], apart := false, laid := [("spandrel/isa.ops", laid_spandrel_isa_ops), ("spandrel/isa.shapes", laid_spandrel_isa_shapes)] }
def DecodeRowSaid : Prop := decodeRowRow.holds Tryd.pinned (OpenSpec.ofChange decodeRowSpec)

/-- ITS FALSE NEIGHBOUR: 'it returns false'. Refute it at one input. -/
def decodeRowWrong : ChangeSpec := { name := "decodeRow", fn := fun _ => fun
  | [d] => { results := [.lit (.bool false)], args := [d] }
  | _ => none }
def DecodeRowWrongFalsely : Prop := decodeRowRow.holds Tryd.pinned (OpenSpec.ofChange decodeRowWrong)

/- THE SECOND FORM. 'bulk': how many values and letters a reading holds, each counted each time it is reached (what is shared counts as often as it is met; a slice's spare places count too). A statement '..UptoSaid' is the law's where the arguments, and the package variables that the reading takes, are together of bulk at most 1048576: NARROWER than '..Said'. Prove '..Said' where nothing that the law and all that it calls make is longer than what came in: it says more and counts as full. Else prove '..UptoSaid'. A law counts once. -/
mutual
def uptoBulk {H : Type} : DataW H → Nat
  | .lit (.string bytes) => bytes.length + 1
  | .lit _ => 1
  | .nil => 1
  | .ptr d => uptoBulk d + 1
  | .slice elems spare => uptoBulkAll elems + uptoBulkAll spare + 1
  | .agg parts => uptoBulkAll parts + 1
  | .iface _ d => uptoBulk d + 1
  | .map entries => uptoBulkEntries entries + 1
  | .held _ => 1
def uptoBulkAll {H : Type} : List (DataW H) → Nat
  | [] => 0
  | d :: r => uptoBulk d + uptoBulkAll r
def uptoBulkEntries {H : Type} : List (Lit × DataW H) → Nat
  | [] => 0
  | x :: r => uptoBulkEntry x + uptoBulkEntries r
def uptoBulkEntry {H : Type} : Lit × DataW H → Nat
  | (.string bytes, d) => bytes.length + uptoBulk d + 1
  | (_, d) => uptoBulk d + 1
 end
def uptoSmall : (H : Type) → List (DataW H) → Bool := fun _ ds => decide (uptoBulkAll ds ≤ 1048576)
def OpenSpec.upto (s : _root_.Go.ChangeSpec) : _root_.Go.OpenSpec := { _root_.Go.OpenSpec.ofChange s with cond := some uptoSmall }

/-- 'spandrellaw7.DecodeNumbers', WHERE WHAT IT READS IS OF BULK AT MOST 1048576: true; the input reads as it did. -/
def decodeNumbersUptoRow : OpenClaim := { program := "ythboapfbgdcdoaadoor", sum := "efadcb76e74487c5195995ff4cd9f0d51102357bd65eb91adfba1fc1ba81b3b9", func := "spandrel/spandrellaw7.DecodeNumbers", spec := "decodeNumbers", unfollowed := true, recurses := true, named := ["spandrel/isa.ops", "spandrel/isa.shapes"], apart := false, laid := [("spandrel/isa.ops", laid_spandrel_isa_ops), ("spandrel/isa.shapes", laid_spandrel_isa_shapes)], narrowed := true }
def DecodeNumbersUptoSaid : Prop := decodeNumbersUptoRow.holds Tryd.pinned (OpenSpec.upto decodeNumbersSpec)

/-- 'spandrellaw7.DecodeDecodes', WHERE WHAT IT READS IS OF BULK AT MOST 1048576: true; the input reads as it did. -/
def decodeDecodesUptoRow : OpenClaim := { program := "ythboapfbgdcdoaadoor", sum := "efadcb76e74487c5195995ff4cd9f0d51102357bd65eb91adfba1fc1ba81b3b9", func := "spandrel/spandrellaw7.DecodeDecodes", spec := "decodeDecodes", named := ["spandrel/isa.ops", "spandrel/isa.shapes"], apart := false, laid := [("spandrel/isa.ops", laid_spandrel_isa_ops), ("spandrel/isa.shapes", laid_spandrel_isa_shapes)], narrowed := true }
def DecodeDecodesUptoSaid : Prop := decodeDecodesUptoRow.holds Tryd.pinned (OpenSpec.upto decodeDecodesSpec)

/-- 'spandrellaw7.DecodeBack', WHERE WHAT IT READS IS OF BULK AT MOST 1048576: true; the input reads as it did. -/
def decodeBackUptoRow : OpenClaim := { program := "ythboapfbgdcdoaadoor", sum := "efadcb76e74487c5195995ff4cd9f0d51102357bd65eb91adfba1fc1ba81b3b9", func := "spandrel/spandrellaw7.DecodeBack", spec := "decodeBack", named := ["spandrel/isa.ops", "spandrel/isa.shapes"], apart := false, laid := [("spandrel/isa.ops", laid_spandrel_isa_ops), ("spandrel/isa.shapes", laid_spandrel_isa_shapes)], narrowed := true }
def DecodeBackUptoSaid : Prop := decodeBackUptoRow.holds Tryd.pinned (OpenSpec.upto decodeBackSpec)

/-- 'spandrellaw7.DecodeAll', WHERE WHAT IT READS IS OF BULK AT MOST 1048576: true; the input reads as it did. -/
def decodeAllUptoRow : OpenClaim := { program := "ythboapfbgdcdoaadoor", sum := "efadcb76e74487c5195995ff4cd9f0d51102357bd65eb91adfba1fc1ba81b3b9", func := "spandrel/spandrellaw7.DecodeAll", spec := "decodeAll", unfollowed := true, recurses := true, named := ["spandrel/isa.ops", "spandrel/isa.shapes"], apart := false, laid := [("spandrel/isa.ops", laid_spandrel_isa_ops), ("spandrel/isa.shapes", laid_spandrel_isa_shapes)], narrowed := true }
def DecodeAllUptoSaid : Prop := decodeAllUptoRow.holds Tryd.pinned (OpenSpec.upto decodeAllSpec)

/-- 'spandrellaw7.DecodeRow', WHERE WHAT IT READS IS OF BULK AT MOST 1048576: true; the input reads as it did. -/
def decodeRowUptoRow : OpenClaim := { program := "ythboapfbgdcdoaadoor", sum := "efadcb76e74487c5195995ff4cd9f0d51102357bd65eb91adfba1fc1ba81b3b9", func := "spandrel/spandrellaw7.DecodeRow", spec := "decodeRow", unfollowed := true, recurses := true, named := ["spandrel/isa.ops", "spandrel/isa.shapes"], apart := false, laid := [("spandrel/isa.ops", laid_spandrel_isa_ops), ("spandrel/isa.shapes", laid_spandrel_isa_shapes)], narrowed := true }
def DecodeRowUptoSaid : Prop := decodeRowUptoRow.holds Tryd.pinned (OpenSpec.upto decodeRowSpec)

end Rows
end Go.Proofs.YthboapfbgdcdoaaDoor
