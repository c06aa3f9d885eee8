/-
  No cell of these rows narrows 'for every input' (looked for: loops, veiled, ifaces, maps, wideKeys, modest, calm, conditions, laid).
  DERIVED. THE GIVEN ROWS OF THIS SEAT. 5 by the template 'for every input the law returns true; each argument reads behind the call as it read before'; 0 by the template 'total and deterministic' (their statements: YtdmhdhmclcogoaaTotals.lean).
  GIVEN WITH THE SEED: the statements are not yours to turn. If you find one false, say at which input.
  Laid BY PROGRAM, IN A SANDBOX (cutbox-rows.mjs): the forced cells as the released guide's own fill.sh prints them over the translation a7a8ed1c5d45ff9d… (all of the seat's roots in one cut). By AI agents, Wed Nov 11 2026. No macro, syntax, notation, axiom, sorry.
-/
import Derived.Test.YtdmhdhmclcogoaaChecked
import GoSem.Claim
import GoSem.ClaimJoined
import GoSem.ClaimMapViews
import Derived.JoinedTies
import Derived.KernelRfl
namespace Go.Proofs.Ytdmhdhmclcogoaa
/- THE CELL 'sum', in the pinned program and in every row, IS THE sha256 OF THE DUMP (.gsa) THAT YtdmhdhmclcogoaaProg.lean LOADS. Nothing in Lean hashes anything: it is a label: what it is worth is what the hold of that sum in a sandbox is worth. -/
noncomputable def Try.pinned : Pinned := { name := "ytdmhdhmclcogoaa", sum := "a7a8ed1c5d45ff9def768d08f38eecbeb18788ee86aa059b1a3b76c0b03074e1", checked := Try.checked }
namespace Rows
def none {H : Type} : Left H := { results := [], args := [] }

/-- 'spandrellaw3.LineNumbers': WHATEVER THE INPUT: true; the input reads as it did. -/
def lineNumbersSpec : ChangeSpec := { name := "lineNumbers", fn := fun _ => fun
  | [] => { results := [.lit (.bool true)], args := [] }
  | _ => none }
def lineNumbersRow : OpenClaim := { program := "ytdmhdhmclcogoaa", sum := "a7a8ed1c5d45ff9def768d08f38eecbeb18788ee86aa059b1a3b76c0b03074e1", func := "spandrel/spandrellaw3.LineNumbers", spec := "lineNumbers", inPlace := ["internal/bytealg.IndexByteString", "internal/bytealg.IndexString"], unfollowed := true, recurses := true, named := ["internal/bytealg.MaxLen"], apart := false }
def LineNumbersSaid : Prop := lineNumbersRow.holds Try.pinned (OpenSpec.ofChange lineNumbersSpec)

/-- ITS FALSE NEIGHBOUR: 'it returns false'. Refute it at one input. -/
def lineNumbersWrong : ChangeSpec := { name := "lineNumbers", fn := fun _ => fun
  | [] => { results := [.lit (.bool false)], args := [] }
  | _ => none }
def LineNumbersWrongFalsely : Prop := lineNumbersRow.holds Try.pinned (OpenSpec.ofChange lineNumbersWrong)

/-- 'spandrellaw3.LineParses': WHATEVER THE INPUT: true; the input reads as it did. -/
def lineParsesSpec : ChangeSpec := { name := "lineParses", fn := fun _ => fun
  | [d] => { results := [.lit (.bool true)], args := [d] }
  | _ => none }
def lineParsesRow : OpenClaim := { program := "ytdmhdhmclcogoaa", sum := "a7a8ed1c5d45ff9def768d08f38eecbeb18788ee86aa059b1a3b76c0b03074e1", func := "spandrel/spandrellaw3.LineParses", spec := "lineParses", inPlace := ["internal/bytealg.IndexByteString"], apart := false }
def LineParsesSaid : Prop := lineParsesRow.holds Try.pinned (OpenSpec.ofChange lineParsesSpec)

/-- ITS FALSE NEIGHBOUR: 'it returns false'. Refute it at one input. -/
def lineParsesWrong : ChangeSpec := { name := "lineParses", fn := fun _ => fun
  | [d] => { results := [.lit (.bool false)], args := [d] }
  | _ => none }
def LineParsesWrongFalsely : Prop := lineParsesRow.holds Try.pinned (OpenSpec.ofChange lineParsesWrong)

/-- 'spandrellaw3.LineAll': WHATEVER THE INPUT: true; the input reads as it did. -/
def lineAllSpec : ChangeSpec := { name := "lineAll", fn := fun _ => fun
  | [d1, d2] => { results := [.lit (.bool true)], args := [d1, d2] }
  | _ => none }
def lineAllRow : OpenClaim := { program := "ytdmhdhmclcogoaa", sum := "a7a8ed1c5d45ff9def768d08f38eecbeb18788ee86aa059b1a3b76c0b03074e1", func := "spandrel/spandrellaw3.LineAll", spec := "lineAll", inPlace := ["internal/bytealg.IndexByteString", "internal/bytealg.IndexString"], unfollowed := true, recurses := true, named := ["internal/bytealg.MaxLen"], apart := false }
def LineAllSaid : Prop := lineAllRow.holds Try.pinned (OpenSpec.ofChange lineAllSpec)

/-- ITS FALSE NEIGHBOUR: 'it returns false'. Refute it at one input. -/
def lineAllWrong : ChangeSpec := { name := "lineAll", fn := fun _ => fun
  | [d1, d2] => { results := [.lit (.bool false)], args := [d1, d2] }
  | _ => none }
def LineAllWrongFalsely : Prop := lineAllRow.holds Try.pinned (OpenSpec.ofChange lineAllWrong)

/-- 'spandrellaw3.LineSpaced': WHATEVER THE INPUT: true; the input reads as it did. -/
def lineSpacedSpec : ChangeSpec := { name := "lineSpaced", fn := fun _ => fun
  | [d1, d2] => { results := [.lit (.bool true)], args := [d1, d2] }
  | _ => none }
def lineSpacedRow : OpenClaim := { program := "ytdmhdhmclcogoaa", sum := "a7a8ed1c5d45ff9def768d08f38eecbeb18788ee86aa059b1a3b76c0b03074e1", func := "spandrel/spandrellaw3.LineSpaced", spec := "lineSpaced", inPlace := ["internal/bytealg.IndexByteString"], apart := false }
def LineSpacedSaid : Prop := lineSpacedRow.holds Try.pinned (OpenSpec.ofChange lineSpacedSpec)

/-- ITS FALSE NEIGHBOUR: 'it returns false'. Refute it at one input. -/
def lineSpacedWrong : ChangeSpec := { name := "lineSpaced", fn := fun _ => fun
  | [d1, d2] => { results := [.lit (.bool false)], args := [d1, d2] }
  | _ => none }
def LineSpacedWrongFalsely : Prop := lineSpacedRow.holds Try.pinned (OpenSpec.ofChange lineSpacedWrong)

/-- 'spandrellaw3.LineKept': WHATEVER THE INPUT: true; the input reads as it did. -/
def lineKeptSpec : ChangeSpec := { name := "lineKept", fn := fun _ => fun
  | [d] => { results := [.lit (.bool true)], args := [d] }
  | _ => none }
def lineKeptRow : OpenClaim := { program := "ytdmhdhmclcogoaa", sum := "a7a8ed1c5d45ff9def768d08f38eecbeb18788ee86aa059b1a3b76c0b03074e1", func := "spandrel/spandrellaw3.LineKept", spec := "lineKept", inPlace := ["internal/bytealg.IndexByteString"], unfollowed := true, recurses := true, apart := false }
def LineKeptSaid : Prop := lineKeptRow.holds Try.pinned (OpenSpec.ofChange lineKeptSpec)

/-- ITS FALSE NEIGHBOUR: 'it returns false'. Refute it at one input. -/
def lineKeptWrong : ChangeSpec := { name := "lineKept", fn := fun _ => fun
  | [d] => { results := [.lit (.bool false)], args := [d] }
  | _ => none }
def LineKeptWrongFalsely : Prop := lineKeptRow.holds Try.pinned (OpenSpec.ofChange lineKeptWrong)

/- THE SECOND FORM. 'bulk': how many values and letters a reading holds, each counted each time it is reached (what is shared counts as often as it is met; a slice's spare places count too). A statement '..UptoSaid' is the law's where the arguments, and the package variables that the reading takes, are together of bulk at most 1048576: NARROWER than '..Said'. Prove '..Said' where nothing that the law and all that it calls make is longer than what came in: it says more and counts as full. Else prove '..UptoSaid'. A law counts once. -/
mutual
def uptoBulk {H : Type} : DataW H → Nat
  | .lit (.string bytes) => bytes.length + 1
  | .lit _ => 1
  | .nil => 1
  | .ptr d => uptoBulk d + 1
  | .slice elems spare => uptoBulkAll elems + uptoBulkAll spare + 1
  | .agg parts => uptoBulkAll parts + 1
  | .iface _ d => uptoBulk d + 1
  | .map entries => uptoBulkEntries entries + 1
  | .held _ => 1
def uptoBulkAll {H : Type} : List (DataW H) → Nat
  | [] => 0
  | d :: r => uptoBulk d + uptoBulkAll r
def uptoBulkEntries {H : Type} : List (Lit × DataW H) → Nat
  | [] => 0
  | x :: r => uptoBulkEntry x + uptoBulkEntries r
def uptoBulkEntry {H : Type} : Lit × DataW H → Nat
  | (.string bytes, d) => bytes.length + uptoBulk d + 1
  | (_, d) => uptoBulk d + 1
 end
def uptoSmall : (H : Type) → List (DataW H) → Bool := fun _ ds => decide (uptoBulkAll ds ≤ 1048576)
def OpenSpec.upto (s : _root_.Go.ChangeSpec) : _root_.Go.OpenSpec := { _root_.Go.OpenSpec.ofChange s with cond := some uptoSmall }

/-- 'spandrellaw3.LineNumbers', WHERE WHAT IT READS IS OF BULK AT MOST 1048576: true; the input reads as it did. -/
def lineNumbersUptoRow : OpenClaim := { program := "ytdmhdhmclcogoaa", sum := "a7a8ed1c5d45ff9def768d08f38eecbeb18788ee86aa059b1a3b76c0b03074e1", func := "spandrel/spandrellaw3.LineNumbers", spec := "lineNumbers", inPlace := ["internal/bytealg.IndexByteString", "internal/bytealg.IndexString"], unfollowed := true, recurses := true, named := ["internal/bytealg.MaxLen"], apart := false, narrowed := true }
def LineNumbersUptoSaid : Prop := lineNumbersUptoRow.holds Try.pinned (OpenSpec.upto lineNumbersSpec)

/-- 'spandrellaw3.LineParses', WHERE WHAT IT READS IS OF BULK AT MOST 1048576: true; the input reads as it did. -/
def lineParsesUptoRow : OpenClaim := { program := "ytdmhdhmclcogoaa", sum := "a7a8ed1c5d45ff9def768d08f38eecbeb18788ee86aa059b1a3b76c0b03074e1", func := "spandrel/spandrellaw3.LineParses", spec := "lineParses", inPlace := ["internal/bytealg.IndexByteString"], apart := false, narrowed := true }
def LineParsesUptoSaid : Prop := lineParsesUptoRow.holds Try.pinned (OpenSpec.upto lineParsesSpec)

/-- 'spandrellaw3.LineAll', WHERE WHAT IT READS IS OF BULK AT MOST 1048576: true; the input reads as it did. -/
def lineAllUptoRow : OpenClaim := { program := "ytdmhdhmclcogoaa", sum := "a7a8ed1c5d45ff9def768d08f38eecbeb18788ee86aa059b1a3b76c0b03074e1", func := "spandrel/spandrellaw3.LineAll", spec := "lineAll", inPlace := ["internal/bytealg.IndexByteString", "internal/bytealg.IndexString"], unfollowed := true, recurses := true, named := ["internal/bytealg.MaxLen"], apart := false, narrowed := true }
def LineAllUptoSaid : Prop := lineAllUptoRow.holds Try.pinned (OpenSpec.upto lineAllSpec)

/-- 'spandrellaw3.LineSpaced', WHERE WHAT IT READS IS OF BULK AT MOST 1048576: true; the input reads as it did. -/
def lineSpacedUptoRow : OpenClaim := { program := "ytdmhdhmclcogoaa", sum := "a7a8ed1c5d45ff9def768d08f38eecbeb18788ee86aa059b1a3b76c0b03074e1", func := "spandrel/spandrellaw3.LineSpaced", spec := "lineSpaced", inPlace := ["internal/bytealg.IndexByteString"], apart := false, narrowed := true }
def LineSpacedUptoSaid : Prop := lineSpacedUptoRow.holds Try.pinned (OpenSpec.upto lineSpacedSpec)

/-- 'spandrellaw3.LineKept', WHERE WHAT IT READS IS OF BULK AT MOST 1048576: true; the input reads as it did. -/
def lineKeptUptoRow : OpenClaim := { program := "ytdmhdhmclcogoaa", sum := "a7a8ed1c5d45ff9def768d08f38eecbeb18788ee86aa059b1a3b76c0b03074e1", func := "spandrel/spandrellaw3.LineKept", spec := "lineKept", inPlace := ["internal/bytealg.IndexByteString"], unfollowed := true, recurses := true, apart := false, narrowed := true }
def LineKeptUptoSaid : Prop := lineKeptUptoRow.holds Try.pinned (OpenSpec.upto lineKeptSpec)

end Rows
end Go.Proofs.Ytdmhdhmclcogoaa
