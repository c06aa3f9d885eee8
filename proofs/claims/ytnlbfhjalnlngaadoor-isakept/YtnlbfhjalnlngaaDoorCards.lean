/-
  DERIVED. GIVEN WITH THE SEED: THE CARDS: each row of YtnlbfhjalnlngaaDoorRows.lean that lists a variable, with what it lists TIED to the program's text (the seventh form; the later family's looks); each row that meets fmt, with fmt's text TOLD by the authors' own Lean function (tested against real Go, not proved from fmt's source: count such statements apart). THE CARD IS WHAT COUNTS. Prove the row's statement (the work); the ties are given (YtnlbfhjalnlngaaDoorTie.lean); close each card by the builder's one call (the guide's Derived/Test/ToyasCard.lean, 'card_holds'). Laid BY PROGRAM, IN A SANDBOX (cutbox-door.mjs). By AI agents, Wed Nov 11 2026. No macro, syntax, notation, axiom, sorry.
-/
import Derived.Test.YtnlbfhjalnlngaaDoorRows
import GoSem.ClaimSeven
namespace Go.Proofs.YtnlbfhjalnlngaaDoor
namespace Rows

/-- THE TIED CARD OF 'spandrellaw5.IsaNumbers'. -/
def isaNumbersCard : Claim7 := { stood := { row := isaNumbersRow, standIns := [], harness := (true, "5e846d53f1ff2d42611a76b968b5434ea061a5002a19bcdc89eab1f0861c9bba"), looks := false }, kinds := [], alts := [], laidByText := true, laidKinds := [.data, .data], laidTests := true, laidLooks := .later }
def IsaNumbersCardSaid : Prop := Claim7.holds Tryd.pinned (.plain (OpenSpec.ofChange isaNumbersSpec)) isaNumbersCard

/-- THE TIED CARD OF 'spandrellaw5.IsaAsks'. -/
def isaAsksCard : Claim7 := { stood := { row := isaAsksRow, standIns := [], harness := (true, "5e846d53f1ff2d42611a76b968b5434ea061a5002a19bcdc89eab1f0861c9bba"), looks := false }, kinds := [], alts := [], laidByText := true, laidKinds := [.data, .data], laidTests := true, laidLooks := .later }
def IsaAsksCardSaid : Prop := Claim7.holds Tryd.pinned (.plain (OpenSpec.ofChange isaAsksSpec)) isaAsksCard

/-- THE TIED CARD OF 'spandrellaw5.IsaChecks'. -/
def isaChecksCard : Claim7 := { stood := { row := isaChecksRow, standIns := [], harness := (true, "5e846d53f1ff2d42611a76b968b5434ea061a5002a19bcdc89eab1f0861c9bba"), looks := false }, kinds := [], alts := [], laidByText := true, laidKinds := [.data, .data], laidTests := true, laidLooks := .later }
def IsaChecksCardSaid : Prop := Claim7.holds Tryd.pinned (.plain (OpenSpec.ofChange isaChecksSpec)) isaChecksCard

/-- THE TIED CARD OF 'spandrellaw5.IsaApart'. -/
def isaApartCard : Claim7 := { stood := { row := isaApartRow, standIns := [], harness := (true, "5e846d53f1ff2d42611a76b968b5434ea061a5002a19bcdc89eab1f0861c9bba"), looks := false }, kinds := [], alts := [], laidByText := true, laidKinds := [.data, .data], laidTests := true, laidLooks := .later }
def IsaApartCardSaid : Prop := Claim7.holds Tryd.pinned (.plain (OpenSpec.ofChange isaApartSpec)) isaApartCard

/-- THE TIED CARD OF 'spandrellaw5.IsaReaches'. -/
def isaReachesCard : Claim7 := { stood := { row := isaReachesRow, standIns := [], harness := (true, "5e846d53f1ff2d42611a76b968b5434ea061a5002a19bcdc89eab1f0861c9bba"), looks := false }, kinds := [], alts := [], laidByText := true, laidKinds := [.data, .data], laidTests := true, laidLooks := .later }
def IsaReachesCardSaid : Prop := Claim7.holds Tryd.pinned (.plain (OpenSpec.ofChange isaReachesSpec)) isaReachesCard

/-- THE TIED CARD OF 'spandrellaw5.IsaKept'. -/
def isaKeptCard : Claim7 := { stood := { row := isaKeptRow, standIns := [], harness := (true, "5e846d53f1ff2d42611a76b968b5434ea061a5002a19bcdc89eab1f0861c9bba"), looks := false }, kinds := [], alts := [], laidByText := true, laidKinds := [.data, .data], laidTests := true, laidLooks := .later }
def IsaKeptCardSaid : Prop := Claim7.holds Tryd.pinned (.plain (OpenSpec.ofChange isaKeptSpec)) isaKeptCard

/-- THE SECOND FORM's CARD OF 'spandrellaw5.IsaNumbers'. -/
def isaNumbersUptoCard : Claim7 := { stood := { row := isaNumbersUptoRow, standIns := [], harness := (true, "5e846d53f1ff2d42611a76b968b5434ea061a5002a19bcdc89eab1f0861c9bba"), looks := false }, kinds := [], alts := [], laidByText := true, laidKinds := [.data, .data], laidTests := true, laidLooks := .later }
def IsaNumbersUptoCardSaid : Prop := Claim7.holds Tryd.pinned (.plain (OpenSpec.upto isaNumbersSpec)) isaNumbersUptoCard

/-- THE SECOND FORM's CARD OF 'spandrellaw5.IsaAsks'. -/
def isaAsksUptoCard : Claim7 := { stood := { row := isaAsksUptoRow, standIns := [], harness := (true, "5e846d53f1ff2d42611a76b968b5434ea061a5002a19bcdc89eab1f0861c9bba"), looks := false }, kinds := [], alts := [], laidByText := true, laidKinds := [.data, .data], laidTests := true, laidLooks := .later }
def IsaAsksUptoCardSaid : Prop := Claim7.holds Tryd.pinned (.plain (OpenSpec.upto isaAsksSpec)) isaAsksUptoCard

/-- THE SECOND FORM's CARD OF 'spandrellaw5.IsaChecks'. -/
def isaChecksUptoCard : Claim7 := { stood := { row := isaChecksUptoRow, standIns := [], harness := (true, "5e846d53f1ff2d42611a76b968b5434ea061a5002a19bcdc89eab1f0861c9bba"), looks := false }, kinds := [], alts := [], laidByText := true, laidKinds := [.data, .data], laidTests := true, laidLooks := .later }
def IsaChecksUptoCardSaid : Prop := Claim7.holds Tryd.pinned (.plain (OpenSpec.upto isaChecksSpec)) isaChecksUptoCard

/-- THE SECOND FORM's CARD OF 'spandrellaw5.IsaApart'. -/
def isaApartUptoCard : Claim7 := { stood := { row := isaApartUptoRow, standIns := [], harness := (true, "5e846d53f1ff2d42611a76b968b5434ea061a5002a19bcdc89eab1f0861c9bba"), looks := false }, kinds := [], alts := [], laidByText := true, laidKinds := [.data, .data], laidTests := true, laidLooks := .later }
def IsaApartUptoCardSaid : Prop := Claim7.holds Tryd.pinned (.plain (OpenSpec.upto isaApartSpec)) isaApartUptoCard

/-- THE SECOND FORM's CARD OF 'spandrellaw5.IsaReaches'. -/
def isaReachesUptoCard : Claim7 := { stood := { row := isaReachesUptoRow, standIns := [], harness := (true, "5e846d53f1ff2d42611a76b968b5434ea061a5002a19bcdc89eab1f0861c9bba"), looks := false }, kinds := [], alts := [], laidByText := true, laidKinds := [.data, .data], laidTests := true, laidLooks := .later }
def IsaReachesUptoCardSaid : Prop := Claim7.holds Tryd.pinned (.plain (OpenSpec.upto isaReachesSpec)) isaReachesUptoCard

/-- THE SECOND FORM's CARD OF 'spandrellaw5.IsaKept'. -/
def isaKeptUptoCard : Claim7 := { stood := { row := isaKeptUptoRow, standIns := [], harness := (true, "5e846d53f1ff2d42611a76b968b5434ea061a5002a19bcdc89eab1f0861c9bba"), looks := false }, kinds := [], alts := [], laidByText := true, laidKinds := [.data, .data], laidTests := true, laidLooks := .later }
def IsaKeptUptoCardSaid : Prop := Claim7.holds Tryd.pinned (.plain (OpenSpec.upto isaKeptSpec)) isaKeptUptoCard
end Rows
end Go.Proofs.YtnlbfhjalnlngaaDoor
