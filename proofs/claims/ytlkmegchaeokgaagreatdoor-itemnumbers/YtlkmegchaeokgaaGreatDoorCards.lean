/-
  DERIVED. GIVEN WITH THE SEED: THE CARDS: each row of YtlkmegchaeokgaaGreatDoorRows.lean that lists a variable, with what it lists TIED to the program's text (the seventh form; the later family's looks); each row that meets fmt, with fmt's text TOLD by the authors' own Lean function (tested against real Go, not proved from fmt's source: count such statements apart). THE CARD IS WHAT COUNTS. Prove the row's statement (the work); the ties are given (YtlkmegchaeokgaaGreatDoorTie.lean); close each card by the builder's one call (the guide's Derived/Test/ToyasCard.lean, 'card_holds'). Laid BY PROGRAM, IN A SANDBOX (cutbox-door.mjs). By AI agents, Wed Nov 11 2026. No macro, syntax, notation, axiom, sorry.
-/
import Derived.Test.YtlkmegchaeokgaaGreatDoorRows
import GoSem.ClaimSeven
namespace Go.Proofs.YtlkmegchaeokgaaGreatDoor
namespace Rows

/-- THE TIED CARD OF 'spandrellaw8.ItemNumbers'. -/
def itemNumbersCard : Claim7 := { stood := { row := itemNumbersRow, standIns := [], harness := (true, "01720e7137a83f71756a56d7df97459691b5323fb730c9e313599441ee9240a2"), looks := true }, kinds := [], alts := [], laidByText := true, laidKinds := [.data, .data], laidTests := true, laidLooks := .later }
def ItemNumbersCardSaid : Prop := Claim7.holds Tryz.pinned (.plain (OpenSpec.ofChange itemNumbersSpec)) itemNumbersCard

/-- THE TIED CARD OF 'spandrellaw8.ItemReads'. -/
def itemReadsCard : Claim7 := { stood := { row := itemReadsRow, standIns := [], harness := (true, "01720e7137a83f71756a56d7df97459691b5323fb730c9e313599441ee9240a2"), looks := true }, kinds := [], alts := [], laidByText := true, laidKinds := [.data], laidTests := true, laidLooks := .later }
def ItemReadsCardSaid : Prop := Claim7.holds Tryz.pinned (.plain (OpenSpec.ofChange itemReadsSpec)) itemReadsCard

/-- THE TIED CARD OF 'spandrellaw8.ItemRight'. -/
def itemRightCard : Claim7 := { stood := { row := itemRightRow, standIns := [], harness := (true, "01720e7137a83f71756a56d7df97459691b5323fb730c9e313599441ee9240a2"), looks := true }, kinds := [], alts := [], laidByText := true, laidKinds := [.data, .data], laidTests := true, laidLooks := .later }
def ItemRightCardSaid : Prop := Claim7.holds Tryz.pinned (.plain (OpenSpec.ofChange itemRightSpec)) itemRightCard

/-- THE TIED CARD OF 'spandrellaw8.ItemFine'. -/
def itemFineCard : Claim7 := { stood := { row := itemFineRow, standIns := [], harness := (true, "01720e7137a83f71756a56d7df97459691b5323fb730c9e313599441ee9240a2"), looks := true }, kinds := [], alts := [], laidByText := true, laidKinds := [.data, .data], laidTests := true, laidLooks := .later }
def ItemFineCardSaid : Prop := Claim7.holds Tryz.pinned (.plain (OpenSpec.ofChange itemFineSpec)) itemFineCard

/-- THE TIED CARD OF 'spandrellaw8.ItemKept'. -/
def itemKeptCard : Claim7 := { stood := { row := itemKeptRow, standIns := [], harness := (true, "01720e7137a83f71756a56d7df97459691b5323fb730c9e313599441ee9240a2"), looks := true }, kinds := [], alts := [], laidByText := true, laidKinds := [.data], laidTests := true, laidLooks := .later }
def ItemKeptCardSaid : Prop := Claim7.holds Tryz.pinned (.plain (OpenSpec.ofChange itemKeptSpec)) itemKeptCard

/-- THE SECOND FORM's CARD OF 'spandrellaw8.ItemNumbers'. -/
def itemNumbersUptoCard : Claim7 := { stood := { row := itemNumbersUptoRow, standIns := [], harness := (true, "01720e7137a83f71756a56d7df97459691b5323fb730c9e313599441ee9240a2"), looks := true }, kinds := [], alts := [], laidByText := true, laidKinds := [.data, .data], laidTests := true, laidLooks := .later }
def ItemNumbersUptoCardSaid : Prop := Claim7.holds Tryz.pinned (.plain (OpenSpec.upto itemNumbersSpec)) itemNumbersUptoCard

/-- THE SECOND FORM's CARD OF 'spandrellaw8.ItemReads'. -/
def itemReadsUptoCard : Claim7 := { stood := { row := itemReadsUptoRow, standIns := [], harness := (true, "01720e7137a83f71756a56d7df97459691b5323fb730c9e313599441ee9240a2"), looks := true }, kinds := [], alts := [], laidByText := true, laidKinds := [.data], laidTests := true, laidLooks := .later }
def ItemReadsUptoCardSaid : Prop := Claim7.holds Tryz.pinned (.plain (OpenSpec.upto itemReadsSpec)) itemReadsUptoCard

/-- THE SECOND FORM's CARD OF 'spandrellaw8.ItemRight'. -/
def itemRightUptoCard : Claim7 := { stood := { row := itemRightUptoRow, standIns := [], harness := (true, "01720e7137a83f71756a56d7df97459691b5323fb730c9e313599441ee9240a2"), looks := true }, kinds := [], alts := [], laidByText := true, laidKinds := [.data, .data], laidTests := true, laidLooks := .later }
def ItemRightUptoCardSaid : Prop := Claim7.holds Tryz.pinned (.plain (OpenSpec.upto itemRightSpec)) itemRightUptoCard

/-- THE SECOND FORM's CARD OF 'spandrellaw8.ItemFine'. -/
def itemFineUptoCard : Claim7 := { stood := { row := itemFineUptoRow, standIns := [], harness := (true, "01720e7137a83f71756a56d7df97459691b5323fb730c9e313599441ee9240a2"), looks := true }, kinds := [], alts := [], laidByText := true, laidKinds := [.data, .data], laidTests := true, laidLooks := .later }
def ItemFineUptoCardSaid : Prop := Claim7.holds Tryz.pinned (.plain (OpenSpec.upto itemFineSpec)) itemFineUptoCard

/-- THE SECOND FORM's CARD OF 'spandrellaw8.ItemKept'. -/
def itemKeptUptoCard : Claim7 := { stood := { row := itemKeptUptoRow, standIns := [], harness := (true, "01720e7137a83f71756a56d7df97459691b5323fb730c9e313599441ee9240a2"), looks := true }, kinds := [], alts := [], laidByText := true, laidKinds := [.data], laidTests := true, laidLooks := .later }
def ItemKeptUptoCardSaid : Prop := Claim7.holds Tryz.pinned (.plain (OpenSpec.upto itemKeptSpec)) itemKeptUptoCard
end Rows
end Go.Proofs.YtlkmegchaeokgaaGreatDoor
