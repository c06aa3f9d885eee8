/-
  DERIVED. GIVEN WITH THE SEED: THE CARDS: each row of YtmndccbeddaphaaGreatDoorRows.lean that lists a variable, with what it lists TIED to the program's text (the seventh form; the later family's looks); each row that meets fmt, with fmt's text TOLD by the authors' own Lean function (tested against real Go, not proved from fmt's source: count such statements apart). THE CARD IS WHAT COUNTS. Prove the row's statement (the work); the ties are given (YtmndccbeddaphaaGreatDoorTie.lean); close each card by the builder's one call (the guide's Derived/Test/ToyasCard.lean, 'card_holds'). Laid BY PROGRAM, IN A SANDBOX (cutbox-door.mjs). By AI agents, Wed Nov 11 2026. No macro, syntax, notation, axiom, sorry.
-/
import Derived.Test.YtmndccbeddaphaaGreatDoorRows
import GoSem.ClaimSeven
namespace Go.Proofs.YtmndccbeddaphaaGreatDoor
namespace Rows

/-- THE TIED CARD OF 'spandrellaw10.ObjectNumbers'. -/
def objectNumbersCard : Claim7 := { stood := { row := objectNumbersRow, standIns := [], harness := (true, "a35ae127f0f7bc123b151e8997b9f09c5292021e433ab0837c422f971bb567bc"), looks := true }, kinds := [], alts := [], laidByText := true, laidKinds := [.data, .data, .data, .data, .data], laidTests := true, laidLooks := .later }
def ObjectNumbersCardSaid : Prop := Claim7.holds Tryz.pinned (.plain (OpenSpec.ofChange objectNumbersSpec)) objectNumbersCard

/-- THE TIED CARD OF 'spandrellaw10.ObjectWrites'. -/
def objectWritesCard : Claim7 := { stood := { row := objectWritesRow, standIns := [], harness := (true, "a35ae127f0f7bc123b151e8997b9f09c5292021e433ab0837c422f971bb567bc"), looks := true }, kinds := [], alts := [], laidByText := true, laidKinds := [.data, .data, .data, .data, .data], laidTests := true, laidLooks := .later }
def ObjectWritesCardSaid : Prop := Claim7.holds Tryz.pinned (.plain (OpenSpec.ofChange objectWritesSpec)) objectWritesCard

/-- THE TIED CARD OF 'spandrellaw10.ObjectReads'. -/
def objectReadsCard : Claim7 := { stood := { row := objectReadsRow, standIns := [], harness := (true, "a35ae127f0f7bc123b151e8997b9f09c5292021e433ab0837c422f971bb567bc"), looks := true }, kinds := [], alts := [], laidByText := true, laidKinds := [.data, .data, .data, .data, .data], laidTests := true, laidLooks := .later }
def ObjectReadsCardSaid : Prop := Claim7.holds Tryz.pinned (.plain (OpenSpec.ofChange objectReadsSpec)) objectReadsCard

/-- THE TIED CARD OF 'spandrellaw10.ObjectBack'. -/
def objectBackCard : Claim7 := { stood := { row := objectBackRow, standIns := [], harness := (true, "a35ae127f0f7bc123b151e8997b9f09c5292021e433ab0837c422f971bb567bc"), looks := true }, kinds := [], alts := [], laidByText := true, laidKinds := [.data, .data, .data, .data, .data], laidTests := true, laidLooks := .later }
def ObjectBackCardSaid : Prop := Claim7.holds Tryz.pinned (.plain (OpenSpec.ofChange objectBackSpec)) objectBackCard

/-- THE TIED CARD OF 'spandrellaw10.ObjectCuts'. -/
def objectCutsCard : Claim7 := { stood := { row := objectCutsRow, standIns := [], harness := (true, "a35ae127f0f7bc123b151e8997b9f09c5292021e433ab0837c422f971bb567bc"), looks := true }, kinds := [], alts := [], laidByText := true, laidKinds := [.data, .data, .data, .data, .data], laidTests := true, laidLooks := .later }
def ObjectCutsCardSaid : Prop := Claim7.holds Tryz.pinned (.plain (OpenSpec.ofChange objectCutsSpec)) objectCutsCard

/-- THE TIED CARD OF 'spandrellaw10.ObjectKept'. -/
def objectKeptCard : Claim7 := { stood := { row := objectKeptRow, standIns := [], harness := (true, "a35ae127f0f7bc123b151e8997b9f09c5292021e433ab0837c422f971bb567bc"), looks := true }, kinds := [], alts := [], laidByText := true, laidKinds := [.data, .data, .data, .data, .data], laidTests := true, laidLooks := .later }
def ObjectKeptCardSaid : Prop := Claim7.holds Tryz.pinned (.plain (OpenSpec.ofChange objectKeptSpec)) objectKeptCard

/-- THE SECOND FORM's CARD OF 'spandrellaw10.ObjectNumbers'. -/
def objectNumbersUptoCard : Claim7 := { stood := { row := objectNumbersUptoRow, standIns := [], harness := (true, "a35ae127f0f7bc123b151e8997b9f09c5292021e433ab0837c422f971bb567bc"), looks := true }, kinds := [], alts := [], laidByText := true, laidKinds := [.data, .data, .data, .data, .data], laidTests := true, laidLooks := .later }
def ObjectNumbersUptoCardSaid : Prop := Claim7.holds Tryz.pinned (.plain (OpenSpec.upto objectNumbersSpec)) objectNumbersUptoCard

/-- THE SECOND FORM's CARD OF 'spandrellaw10.ObjectWrites'. -/
def objectWritesUptoCard : Claim7 := { stood := { row := objectWritesUptoRow, standIns := [], harness := (true, "a35ae127f0f7bc123b151e8997b9f09c5292021e433ab0837c422f971bb567bc"), looks := true }, kinds := [], alts := [], laidByText := true, laidKinds := [.data, .data, .data, .data, .data], laidTests := true, laidLooks := .later }
def ObjectWritesUptoCardSaid : Prop := Claim7.holds Tryz.pinned (.plain (OpenSpec.upto objectWritesSpec)) objectWritesUptoCard

/-- THE SECOND FORM's CARD OF 'spandrellaw10.ObjectReads'. -/
def objectReadsUptoCard : Claim7 := { stood := { row := objectReadsUptoRow, standIns := [], harness := (true, "a35ae127f0f7bc123b151e8997b9f09c5292021e433ab0837c422f971bb567bc"), looks := true }, kinds := [], alts := [], laidByText := true, laidKinds := [.data, .data, .data, .data, .data], laidTests := true, laidLooks := .later }
def ObjectReadsUptoCardSaid : Prop := Claim7.holds Tryz.pinned (.plain (OpenSpec.upto objectReadsSpec)) objectReadsUptoCard

/-- THE SECOND FORM's CARD OF 'spandrellaw10.ObjectBack'. -/
def objectBackUptoCard : Claim7 := { stood := { row := objectBackUptoRow, standIns := [], harness := (true, "a35ae127f0f7bc123b151e8997b9f09c5292021e433ab0837c422f971bb567bc"), looks := true }, kinds := [], alts := [], laidByText := true, laidKinds := [.data, .data, .data, .data, .data], laidTests := true, laidLooks := .later }
def ObjectBackUptoCardSaid : Prop := Claim7.holds Tryz.pinned (.plain (OpenSpec.upto objectBackSpec)) objectBackUptoCard

/-- THE SECOND FORM's CARD OF 'spandrellaw10.ObjectCuts'. -/
def objectCutsUptoCard : Claim7 := { stood := { row := objectCutsUptoRow, standIns := [], harness := (true, "a35ae127f0f7bc123b151e8997b9f09c5292021e433ab0837c422f971bb567bc"), looks := true }, kinds := [], alts := [], laidByText := true, laidKinds := [.data, .data, .data, .data, .data], laidTests := true, laidLooks := .later }
def ObjectCutsUptoCardSaid : Prop := Claim7.holds Tryz.pinned (.plain (OpenSpec.upto objectCutsSpec)) objectCutsUptoCard

/-- THE SECOND FORM's CARD OF 'spandrellaw10.ObjectKept'. -/
def objectKeptUptoCard : Claim7 := { stood := { row := objectKeptUptoRow, standIns := [], harness := (true, "a35ae127f0f7bc123b151e8997b9f09c5292021e433ab0837c422f971bb567bc"), looks := true }, kinds := [], alts := [], laidByText := true, laidKinds := [.data, .data, .data, .data, .data], laidTests := true, laidLooks := .later }
def ObjectKeptUptoCardSaid : Prop := Claim7.holds Tryz.pinned (.plain (OpenSpec.upto objectKeptSpec)) objectKeptUptoCard
end Rows
end Go.Proofs.YtmndccbeddaphaaGreatDoor
