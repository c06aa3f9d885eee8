/-
  DERIVED. GIVEN WITH THE SEED: THE CARDS: each row of YtijdjljnppkhmaaDoorRows.lean that lists a variable, with what it lists TIED to the program's text (the seventh form; the later family's looks); each row that meets fmt, with fmt's text TOLD by the authors' own Lean function (tested against real Go, not proved from fmt's source: count such statements apart). THE CARD IS WHAT COUNTS. Prove the row's statement (the work); the ties are given (YtijdjljnppkhmaaDoorTie.lean); close each card by the builder's one call (the guide's Derived/Test/ToyasCard.lean, 'card_holds'). Laid BY PROGRAM, IN A SANDBOX (cutbox-door.mjs). By AI agents, Wed Nov 11 2026. No macro, syntax, notation, axiom, sorry.
-/
import Derived.Test.YtijdjljnppkhmaaDoorRows
import GoSem.ClaimSeven
namespace Go.Proofs.YtijdjljnppkhmaaDoor
namespace Rows

/-- THE TIED CARD OF 'spandrellaw4.ExprNumbers'. -/
def exprNumbersCard : Claim7 := { stood := { row := exprNumbersRow, standIns := [], harness := (true, "e435e9be85953132f28aa05c549a0505d3beb621d7d7fe8311dbe42c40872788"), looks := false }, kinds := [], alts := [], laidByText := true, laidKinds := [.data, .data, .data], laidTests := true, laidLooks := .later }
def ExprNumbersCardSaid : Prop := Claim7.holds Tryd.pinned (.plain (OpenSpec.ofChange exprNumbersSpec)) exprNumbersCard

/-- THE TIED CARD OF 'spandrellaw4.ExprParses'. -/
def exprParsesCard : Claim7 := { stood := { row := exprParsesRow, standIns := [], harness := (true, "e435e9be85953132f28aa05c549a0505d3beb621d7d7fe8311dbe42c40872788"), looks := false }, kinds := [], alts := [], laidByText := true, laidKinds := [.data, .data, .data], laidTests := true, laidLooks := .later }
def ExprParsesCardSaid : Prop := Claim7.holds Tryd.pinned (.plain (OpenSpec.ofChange exprParsesSpec)) exprParsesCard

/-- THE TIED CARD OF 'spandrellaw4.ExprReckons'. -/
def exprReckonsCard : Claim7 := { stood := { row := exprReckonsRow, standIns := [], harness := (true, "e435e9be85953132f28aa05c549a0505d3beb621d7d7fe8311dbe42c40872788"), looks := false }, kinds := [], alts := [], laidByText := true, laidKinds := [.data, .data, .data], laidTests := true, laidLooks := .later }
def ExprReckonsCardSaid : Prop := Claim7.holds Tryd.pinned (.plain (OpenSpec.ofChange exprReckonsSpec)) exprReckonsCard

/-- THE TIED CARD OF 'spandrellaw4.ExprValues'. -/
def exprValuesCard : Claim7 := { stood := { row := exprValuesRow, standIns := [], harness := (true, "e435e9be85953132f28aa05c549a0505d3beb621d7d7fe8311dbe42c40872788"), looks := false }, kinds := [], alts := [], laidByText := true, laidKinds := [.data, .data, .data], laidTests := true, laidLooks := .later }
def ExprValuesCardSaid : Prop := Claim7.holds Tryd.pinned (.plain (OpenSpec.ofChange exprValuesSpec)) exprValuesCard

/-- THE TIED CARD OF 'spandrellaw4.ExprBack'. -/
def exprBackCard : Claim7 := { stood := { row := exprBackRow, standIns := [], harness := (true, "e435e9be85953132f28aa05c549a0505d3beb621d7d7fe8311dbe42c40872788"), looks := false }, kinds := [], alts := [], laidByText := true, laidKinds := [.data, .data, .data], laidTests := true, laidLooks := .later }
def ExprBackCardSaid : Prop := Claim7.holds Tryd.pinned (.plain (OpenSpec.ofChange exprBackSpec)) exprBackCard

/-- THE TIED CARD OF 'spandrellaw4.ExprGroups'. -/
def exprGroupsCard : Claim7 := { stood := { row := exprGroupsRow, standIns := [], harness := (true, "e435e9be85953132f28aa05c549a0505d3beb621d7d7fe8311dbe42c40872788"), looks := false }, kinds := [], alts := [], laidByText := true, laidKinds := [.data, .data, .data], laidTests := true, laidLooks := .later }
def ExprGroupsCardSaid : Prop := Claim7.holds Tryd.pinned (.plain (OpenSpec.ofChange exprGroupsSpec)) exprGroupsCard

/-- THE SECOND FORM's CARD OF 'spandrellaw4.ExprNumbers'. -/
def exprNumbersUptoCard : Claim7 := { stood := { row := exprNumbersUptoRow, standIns := [], harness := (true, "e435e9be85953132f28aa05c549a0505d3beb621d7d7fe8311dbe42c40872788"), looks := false }, kinds := [], alts := [], laidByText := true, laidKinds := [.data, .data, .data], laidTests := true, laidLooks := .later }
def ExprNumbersUptoCardSaid : Prop := Claim7.holds Tryd.pinned (.plain (OpenSpec.upto exprNumbersSpec)) exprNumbersUptoCard

/-- THE SECOND FORM's CARD OF 'spandrellaw4.ExprParses'. -/
def exprParsesUptoCard : Claim7 := { stood := { row := exprParsesUptoRow, standIns := [], harness := (true, "e435e9be85953132f28aa05c549a0505d3beb621d7d7fe8311dbe42c40872788"), looks := false }, kinds := [], alts := [], laidByText := true, laidKinds := [.data, .data, .data], laidTests := true, laidLooks := .later }
def ExprParsesUptoCardSaid : Prop := Claim7.holds Tryd.pinned (.plain (OpenSpec.upto exprParsesSpec)) exprParsesUptoCard

/-- THE SECOND FORM's CARD OF 'spandrellaw4.ExprReckons'. -/
def exprReckonsUptoCard : Claim7 := { stood := { row := exprReckonsUptoRow, standIns := [], harness := (true, "e435e9be85953132f28aa05c549a0505d3beb621d7d7fe8311dbe42c40872788"), looks := false }, kinds := [], alts := [], laidByText := true, laidKinds := [.data, .data, .data], laidTests := true, laidLooks := .later }
def ExprReckonsUptoCardSaid : Prop := Claim7.holds Tryd.pinned (.plain (OpenSpec.upto exprReckonsSpec)) exprReckonsUptoCard

/-- THE SECOND FORM's CARD OF 'spandrellaw4.ExprValues'. -/
def exprValuesUptoCard : Claim7 := { stood := { row := exprValuesUptoRow, standIns := [], harness := (true, "e435e9be85953132f28aa05c549a0505d3beb621d7d7fe8311dbe42c40872788"), looks := false }, kinds := [], alts := [], laidByText := true, laidKinds := [.data, .data, .data], laidTests := true, laidLooks := .later }
def ExprValuesUptoCardSaid : Prop := Claim7.holds Tryd.pinned (.plain (OpenSpec.upto exprValuesSpec)) exprValuesUptoCard

/-- THE SECOND FORM's CARD OF 'spandrellaw4.ExprBack'. -/
def exprBackUptoCard : Claim7 := { stood := { row := exprBackUptoRow, standIns := [], harness := (true, "e435e9be85953132f28aa05c549a0505d3beb621d7d7fe8311dbe42c40872788"), looks := false }, kinds := [], alts := [], laidByText := true, laidKinds := [.data, .data, .data], laidTests := true, laidLooks := .later }
def ExprBackUptoCardSaid : Prop := Claim7.holds Tryd.pinned (.plain (OpenSpec.upto exprBackSpec)) exprBackUptoCard

/-- THE SECOND FORM's CARD OF 'spandrellaw4.ExprGroups'. -/
def exprGroupsUptoCard : Claim7 := { stood := { row := exprGroupsUptoRow, standIns := [], harness := (true, "e435e9be85953132f28aa05c549a0505d3beb621d7d7fe8311dbe42c40872788"), looks := false }, kinds := [], alts := [], laidByText := true, laidKinds := [.data, .data, .data], laidTests := true, laidLooks := .later }
def ExprGroupsUptoCardSaid : Prop := Claim7.holds Tryd.pinned (.plain (OpenSpec.upto exprGroupsSpec)) exprGroupsUptoCard
end Rows
end Go.Proofs.YtijdjljnppkhmaaDoor
