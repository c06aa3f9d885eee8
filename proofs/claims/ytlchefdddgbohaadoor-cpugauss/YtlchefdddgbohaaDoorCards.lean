/-
  DERIVED. GIVEN WITH THE SEED: THE CARDS: each row of YtlchefdddgbohaaDoorRows.lean that lists a variable, with what it lists TIED to the program's text (the seventh form; the later family's looks); each row that meets fmt, with fmt's text TOLD by the authors' own Lean function (tested against real Go, not proved from fmt's source: count such statements apart). THE CARD IS WHAT COUNTS. Prove the row's statement (the work); the ties are given (YtlchefdddgbohaaDoorTie.lean); close each card by the builder's one call (the guide's Derived/Test/ToyasCard.lean, 'card_holds'). Laid BY PROGRAM, IN A SANDBOX (cutbox-door.mjs). By AI agents, Wed Nov 11 2026. No macro, syntax, notation, axiom, sorry.
-/
import Derived.Test.YtlchefdddgbohaaDoorRows
import GoSem.ClaimSeven
namespace Go.Proofs.YtlchefdddgbohaaDoor
namespace Rows

/-- THE TIED CARD OF 'spandrellaw18.CpuNumbers'. -/
def cpuNumbersCard : Claim7 := { stood := { row := cpuNumbersRow, standIns := [], harness := (true, "429edd067479218c54fbefb472a880ff17163cb36272c9d36ac797d488d33fad"), looks := false }, kinds := [], alts := [], laidByText := true, laidKinds := [.data, .data, .data], laidTests := true, laidLooks := .later }
def CpuNumbersCardSaid : Prop := Claim7.holds Tryd.pinned (.plain (OpenSpec.ofChange cpuNumbersSpec)) cpuNumbersCard

/-- THE TIED CARD OF 'spandrellaw18.CpuFull'. -/
def cpuFullCard : Claim7 := { stood := { row := cpuFullRow, standIns := [], harness := (true, "429edd067479218c54fbefb472a880ff17163cb36272c9d36ac797d488d33fad"), looks := false }, kinds := [], alts := [], laidByText := true, laidKinds := [.data, .data, .data], laidTests := true, laidLooks := .later }
def CpuFullCardSaid : Prop := Claim7.holds Tryd.pinned (.plain (OpenSpec.ofChange cpuFullSpec)) cpuFullCard

/-- THE TIED CARD OF 'spandrellaw18.CpuPlays'. -/
def cpuPlaysCard : Claim7 := { stood := { row := cpuPlaysRow, standIns := [], harness := (true, "429edd067479218c54fbefb472a880ff17163cb36272c9d36ac797d488d33fad"), looks := false }, kinds := [], alts := [], laidByText := true, laidKinds := [.data, .data, .data], laidTests := true, laidLooks := .later }
def CpuPlaysCardSaid : Prop := Claim7.holds Tryd.pinned (.plain (OpenSpec.ofChange cpuPlaysSpec)) cpuPlaysCard

/-- THE TIED CARD OF 'spandrellaw18.CpuRing'. -/
def cpuRingCard : Claim7 := { stood := { row := cpuRingRow, standIns := [], harness := (true, "429edd067479218c54fbefb472a880ff17163cb36272c9d36ac797d488d33fad"), looks := false }, kinds := [], alts := [], laidByText := true, laidKinds := [.data, .data, .data], laidTests := true, laidLooks := .later }
def CpuRingCardSaid : Prop := Claim7.holds Tryd.pinned (.plain (OpenSpec.ofChange cpuRingSpec)) cpuRingCard

/-- THE TIED CARD OF 'spandrellaw18.CpuDivides'. -/
def cpuDividesCard : Claim7 := { stood := { row := cpuDividesRow, standIns := [], harness := (true, "429edd067479218c54fbefb472a880ff17163cb36272c9d36ac797d488d33fad"), looks := false }, kinds := [], alts := [], laidByText := true, laidKinds := [.data, .data, .data], laidTests := true, laidLooks := .later }
def CpuDividesCardSaid : Prop := Claim7.holds Tryd.pinned (.plain (OpenSpec.ofChange cpuDividesSpec)) cpuDividesCard

/-- THE TIED CARD OF 'spandrellaw18.CpuGauss'. -/
def cpuGaussCard : Claim7 := { stood := { row := cpuGaussRow, standIns := [], harness := (true, "429edd067479218c54fbefb472a880ff17163cb36272c9d36ac797d488d33fad"), looks := false }, kinds := [], alts := [], laidByText := true, laidKinds := [.data, .data, .data], laidTests := true, laidLooks := .later }
def CpuGaussCardSaid : Prop := Claim7.holds Tryd.pinned (.plain (OpenSpec.ofChange cpuGaussSpec)) cpuGaussCard

/-- THE SECOND FORM's CARD OF 'spandrellaw18.CpuNumbers'. -/
def cpuNumbersUptoCard : Claim7 := { stood := { row := cpuNumbersUptoRow, standIns := [], harness := (true, "429edd067479218c54fbefb472a880ff17163cb36272c9d36ac797d488d33fad"), looks := false }, kinds := [], alts := [], laidByText := true, laidKinds := [.data, .data, .data], laidTests := true, laidLooks := .later }
def CpuNumbersUptoCardSaid : Prop := Claim7.holds Tryd.pinned (.plain (OpenSpec.upto cpuNumbersSpec)) cpuNumbersUptoCard

/-- THE SECOND FORM's CARD OF 'spandrellaw18.CpuFull'. -/
def cpuFullUptoCard : Claim7 := { stood := { row := cpuFullUptoRow, standIns := [], harness := (true, "429edd067479218c54fbefb472a880ff17163cb36272c9d36ac797d488d33fad"), looks := false }, kinds := [], alts := [], laidByText := true, laidKinds := [.data, .data, .data], laidTests := true, laidLooks := .later }
def CpuFullUptoCardSaid : Prop := Claim7.holds Tryd.pinned (.plain (OpenSpec.upto cpuFullSpec)) cpuFullUptoCard

/-- THE SECOND FORM's CARD OF 'spandrellaw18.CpuPlays'. -/
def cpuPlaysUptoCard : Claim7 := { stood := { row := cpuPlaysUptoRow, standIns := [], harness := (true, "429edd067479218c54fbefb472a880ff17163cb36272c9d36ac797d488d33fad"), looks := false }, kinds := [], alts := [], laidByText := true, laidKinds := [.data, .data, .data], laidTests := true, laidLooks := .later }
def CpuPlaysUptoCardSaid : Prop := Claim7.holds Tryd.pinned (.plain (OpenSpec.upto cpuPlaysSpec)) cpuPlaysUptoCard

/-- THE SECOND FORM's CARD OF 'spandrellaw18.CpuRing'. -/
def cpuRingUptoCard : Claim7 := { stood := { row := cpuRingUptoRow, standIns := [], harness := (true, "429edd067479218c54fbefb472a880ff17163cb36272c9d36ac797d488d33fad"), looks := false }, kinds := [], alts := [], laidByText := true, laidKinds := [.data, .data, .data], laidTests := true, laidLooks := .later }
def CpuRingUptoCardSaid : Prop := Claim7.holds Tryd.pinned (.plain (OpenSpec.upto cpuRingSpec)) cpuRingUptoCard

/-- THE SECOND FORM's CARD OF 'spandrellaw18.CpuDivides'. -/
def cpuDividesUptoCard : Claim7 := { stood := { row := cpuDividesUptoRow, standIns := [], harness := (true, "429edd067479218c54fbefb472a880ff17163cb36272c9d36ac797d488d33fad"), looks := false }, kinds := [], alts := [], laidByText := true, laidKinds := [.data, .data, .data], laidTests := true, laidLooks := .later }
def CpuDividesUptoCardSaid : Prop := Claim7.holds Tryd.pinned (.plain (OpenSpec.upto cpuDividesSpec)) cpuDividesUptoCard

/-- THE SECOND FORM's CARD OF 'spandrellaw18.CpuGauss'. -/
def cpuGaussUptoCard : Claim7 := { stood := { row := cpuGaussUptoRow, standIns := [], harness := (true, "429edd067479218c54fbefb472a880ff17163cb36272c9d36ac797d488d33fad"), looks := false }, kinds := [], alts := [], laidByText := true, laidKinds := [.data, .data, .data], laidTests := true, laidLooks := .later }
def CpuGaussUptoCardSaid : Prop := Claim7.holds Tryd.pinned (.plain (OpenSpec.upto cpuGaussSpec)) cpuGaussUptoCard
end Rows
end Go.Proofs.YtlchefdddgbohaaDoor
