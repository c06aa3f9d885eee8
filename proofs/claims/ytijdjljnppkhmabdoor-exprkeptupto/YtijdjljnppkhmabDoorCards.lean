/-
  DERIVED. GIVEN WITH THE SEED: THE CARDS: each row of YtijdjljnppkhmabDoorRows.lean that lists a variable, with what it lists TIED to the program's text (the seventh form; the later family's looks); each row that meets fmt, with fmt's text TOLD by the authors' own Lean function (tested against real Go, not proved from fmt's source: count such statements apart). THE CARD IS WHAT COUNTS. Prove the row's statement (the work); the ties are given (YtijdjljnppkhmabDoorTie.lean); close each card by the builder's one call (the guide's Derived/Test/ToyasCard.lean, 'card_holds'). Laid BY PROGRAM, IN A SANDBOX (cutbox-door.mjs). By AI agents, Wed Nov 11 2026. No macro, syntax, notation, axiom, sorry.
-/
import Derived.Test.YtijdjljnppkhmabDoorRows
import GoSem.ClaimSeven
namespace Go.Proofs.YtijdjljnppkhmabDoor
namespace Rows

/-- THE TIED CARD OF 'spandrellaw4.ExprKept'. -/
def exprKeptCard : Claim7 := { stood := { row := exprKeptRow, standIns := [], harness := (true, "0e3d7c4cff2c7be0e0a1bc2c7fa3040fe187d53bc5b958077f6092508aa156b3"), looks := false }, kinds := [], alts := [], laidByText := true, laidKinds := [.data, .data, .data], laidTests := true, laidLooks := .later }
def ExprKeptCardSaid : Prop := Claim7.holds Tryd.pinned (.plain (OpenSpec.ofChange exprKeptSpec)) exprKeptCard

/-- THE SECOND FORM's CARD OF 'spandrellaw4.ExprKept'. -/
def exprKeptUptoCard : Claim7 := { stood := { row := exprKeptUptoRow, standIns := [], harness := (true, "0e3d7c4cff2c7be0e0a1bc2c7fa3040fe187d53bc5b958077f6092508aa156b3"), looks := false }, kinds := [], alts := [], laidByText := true, laidKinds := [.data, .data, .data], laidTests := true, laidLooks := .later }
def ExprKeptUptoCardSaid : Prop := Claim7.holds Tryd.pinned (.plain (OpenSpec.upto exprKeptSpec)) exprKeptUptoCard
end Rows
end Go.Proofs.YtijdjljnppkhmabDoor
