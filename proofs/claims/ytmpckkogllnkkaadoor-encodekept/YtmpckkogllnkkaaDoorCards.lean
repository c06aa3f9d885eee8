/-
  DERIVED. GIVEN WITH THE SEED: THE CARDS: each row of YtmpckkogllnkkaaDoorRows.lean that lists a variable, with what it lists TIED to the program's text (the seventh form; the later family's looks); each row that meets fmt, with fmt's text TOLD by the authors' own Lean function (tested against real Go, not proved from fmt's source: count such statements apart). THE CARD IS WHAT COUNTS. Prove the row's statement (the work); the ties are given (YtmpckkogllnkkaaDoorTie.lean); close each card by the builder's one call (the guide's Derived/Test/ToyasCard.lean, 'card_holds'). Laid BY PROGRAM, IN A SANDBOX (cutbox-door.mjs). By AI agents, Wed Nov 11 2026. No macro, syntax, notation, axiom, sorry.
-/
import Derived.Test.YtmpckkogllnkkaaDoorRows
import GoSem.ClaimSeven
namespace Go.Proofs.YtmpckkogllnkkaaDoor
namespace Rows

/-- THE TIED CARD OF 'spandrellaw6.EncodeNumbers'. -/
def encodeNumbersCard : Claim7 := { stood := { row := encodeNumbersRow, standIns := [], harness := (true, "3e85dcdf08bffa97a2ebdbd96d0a813437f882a4941952dd8e7b0d0246f44039"), looks := false }, kinds := [], alts := [], laidByText := true, laidKinds := [.data, .data], laidTests := true, laidLooks := .later }
def EncodeNumbersCardSaid : Prop := Claim7.holds Tryd.pinned (.plain (OpenSpec.ofChange encodeNumbersSpec)) encodeNumbersCard

/-- THE TIED CARD OF 'spandrellaw6.EncodeEncodes'. -/
def encodeEncodesCard : Claim7 := { stood := { row := encodeEncodesRow, standIns := [], harness := (true, "3e85dcdf08bffa97a2ebdbd96d0a813437f882a4941952dd8e7b0d0246f44039"), looks := false }, kinds := [], alts := [], laidByText := true, laidKinds := [.data, .data], laidTests := true, laidLooks := .later }
def EncodeEncodesCardSaid : Prop := Claim7.holds Tryd.pinned (.plain (OpenSpec.ofChange encodeEncodesSpec)) encodeEncodesCard

/-- THE TIED CARD OF 'spandrellaw6.EncodeAll'. -/
def encodeAllCard : Claim7 := { stood := { row := encodeAllRow, standIns := [], harness := (true, "3e85dcdf08bffa97a2ebdbd96d0a813437f882a4941952dd8e7b0d0246f44039"), looks := false }, kinds := [], alts := [], laidByText := true, laidKinds := [.data, .data], laidTests := true, laidLooks := .later }
def EncodeAllCardSaid : Prop := Claim7.holds Tryd.pinned (.plain (OpenSpec.ofChange encodeAllSpec)) encodeAllCard

/-- THE TIED CARD OF 'spandrellaw6.EncodeApart'. -/
def encodeApartCard : Claim7 := { stood := { row := encodeApartRow, standIns := [], harness := (true, "3e85dcdf08bffa97a2ebdbd96d0a813437f882a4941952dd8e7b0d0246f44039"), looks := false }, kinds := [], alts := [], laidByText := true, laidKinds := [.data, .data], laidTests := true, laidLooks := .later }
def EncodeApartCardSaid : Prop := Claim7.holds Tryd.pinned (.plain (OpenSpec.ofChange encodeApartSpec)) encodeApartCard

/-- THE TIED CARD OF 'spandrellaw6.EncodeKept'. -/
def encodeKeptCard : Claim7 := { stood := { row := encodeKeptRow, standIns := [], harness := (true, "3e85dcdf08bffa97a2ebdbd96d0a813437f882a4941952dd8e7b0d0246f44039"), looks := false }, kinds := [], alts := [], laidByText := true, laidKinds := [.data, .data], laidTests := true, laidLooks := .later }
def EncodeKeptCardSaid : Prop := Claim7.holds Tryd.pinned (.plain (OpenSpec.ofChange encodeKeptSpec)) encodeKeptCard

/-- THE SECOND FORM's CARD OF 'spandrellaw6.EncodeNumbers'. -/
def encodeNumbersUptoCard : Claim7 := { stood := { row := encodeNumbersUptoRow, standIns := [], harness := (true, "3e85dcdf08bffa97a2ebdbd96d0a813437f882a4941952dd8e7b0d0246f44039"), looks := false }, kinds := [], alts := [], laidByText := true, laidKinds := [.data, .data], laidTests := true, laidLooks := .later }
def EncodeNumbersUptoCardSaid : Prop := Claim7.holds Tryd.pinned (.plain (OpenSpec.upto encodeNumbersSpec)) encodeNumbersUptoCard

/-- THE SECOND FORM's CARD OF 'spandrellaw6.EncodeEncodes'. -/
def encodeEncodesUptoCard : Claim7 := { stood := { row := encodeEncodesUptoRow, standIns := [], harness := (true, "3e85dcdf08bffa97a2ebdbd96d0a813437f882a4941952dd8e7b0d0246f44039"), looks := false }, kinds := [], alts := [], laidByText := true, laidKinds := [.data, .data], laidTests := true, laidLooks := .later }
def EncodeEncodesUptoCardSaid : Prop := Claim7.holds Tryd.pinned (.plain (OpenSpec.upto encodeEncodesSpec)) encodeEncodesUptoCard

/-- THE SECOND FORM's CARD OF 'spandrellaw6.EncodeAll'. -/
def encodeAllUptoCard : Claim7 := { stood := { row := encodeAllUptoRow, standIns := [], harness := (true, "3e85dcdf08bffa97a2ebdbd96d0a813437f882a4941952dd8e7b0d0246f44039"), looks := false }, kinds := [], alts := [], laidByText := true, laidKinds := [.data, .data], laidTests := true, laidLooks := .later }
def EncodeAllUptoCardSaid : Prop := Claim7.holds Tryd.pinned (.plain (OpenSpec.upto encodeAllSpec)) encodeAllUptoCard

/-- THE SECOND FORM's CARD OF 'spandrellaw6.EncodeApart'. -/
def encodeApartUptoCard : Claim7 := { stood := { row := encodeApartUptoRow, standIns := [], harness := (true, "3e85dcdf08bffa97a2ebdbd96d0a813437f882a4941952dd8e7b0d0246f44039"), looks := false }, kinds := [], alts := [], laidByText := true, laidKinds := [.data, .data], laidTests := true, laidLooks := .later }
def EncodeApartUptoCardSaid : Prop := Claim7.holds Tryd.pinned (.plain (OpenSpec.upto encodeApartSpec)) encodeApartUptoCard

/-- THE SECOND FORM's CARD OF 'spandrellaw6.EncodeKept'. -/
def encodeKeptUptoCard : Claim7 := { stood := { row := encodeKeptUptoRow, standIns := [], harness := (true, "3e85dcdf08bffa97a2ebdbd96d0a813437f882a4941952dd8e7b0d0246f44039"), looks := false }, kinds := [], alts := [], laidByText := true, laidKinds := [.data, .data], laidTests := true, laidLooks := .later }
def EncodeKeptUptoCardSaid : Prop := Claim7.holds Tryd.pinned (.plain (OpenSpec.upto encodeKeptSpec)) encodeKeptUptoCard
end Rows
end Go.Proofs.YtmpckkogllnkkaaDoor
