/-
  DERIVED. GIVEN WITH THE SEED: THE CARDS: each row of YtnlbfhjalnlngabDoorRows.lean that lists a variable, with what it lists TIED to the program's text (the seventh form; the later family's looks); each row that meets fmt, with fmt's text TOLD by the authors' own Lean function (tested against real Go, not proved from fmt's source: count such statements apart). THE CARD IS WHAT COUNTS. Prove the row's statement (the work); the ties are given (YtnlbfhjalnlngabDoorTie.lean); close each card by the builder's one call (the guide's Derived/Test/ToyasCard.lean, 'card_holds'). Laid BY PROGRAM, IN A SANDBOX (cutbox-door.mjs). By AI agents, Wed Nov 11 2026. No macro, syntax, notation, axiom, sorry.
-/
import Derived.Test.YtnlbfhjalnlngabDoorRows
import GoSem.ClaimSeven
namespace Go.Proofs.YtnlbfhjalnlngabDoor
namespace Rows

/-- THE TIED CARD OF 'spandrellaw5.IsaLengths'. -/
def isaLengthsCard : Claim7 := { stood := { row := isaLengthsRow, standIns := [], harness := (true, "f80f55550d00c15e960d249d2135a45e64aaf87ac4783be86c5282a90fd52402"), looks := false }, kinds := [], alts := [], laidByText := true, laidKinds := [.data, .data], laidTests := true, laidLooks := .later }
def IsaLengthsCardSaid : Prop := Claim7.holds Tryd.pinned (.plain (OpenSpec.ofChange isaLengthsSpec)) isaLengthsCard

/-- THE SECOND FORM's CARD OF 'spandrellaw5.IsaLengths'. -/
def isaLengthsUptoCard : Claim7 := { stood := { row := isaLengthsUptoRow, standIns := [], harness := (true, "f80f55550d00c15e960d249d2135a45e64aaf87ac4783be86c5282a90fd52402"), looks := false }, kinds := [], alts := [], laidByText := true, laidKinds := [.data, .data], laidTests := true, laidLooks := .later }
def IsaLengthsUptoCardSaid : Prop := Claim7.holds Tryd.pinned (.plain (OpenSpec.upto isaLengthsSpec)) isaLengthsUptoCard
end Rows
end Go.Proofs.YtnlbfhjalnlngabDoor
