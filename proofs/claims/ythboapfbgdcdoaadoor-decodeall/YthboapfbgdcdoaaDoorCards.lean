/-
  DERIVED. GIVEN WITH THE SEED: THE CARDS: each row of YthboapfbgdcdoaaDoorRows.lean that lists a variable, with what it lists TIED to the program's text (the seventh form; the later family's looks); each row that meets fmt, with fmt's text TOLD by the authors' own Lean function (tested against real Go, not proved from fmt's source: count such statements apart). THE CARD IS WHAT COUNTS. Prove the row's statement (the work); the ties are given (YthboapfbgdcdoaaDoorTie.lean); close each card by the builder's one call (the guide's Derived/Test/ToyasCard.lean, 'card_holds'). Laid BY PROGRAM, IN A SANDBOX (cutbox-door.mjs). By AI agents, Wed Nov 11 2026. No macro, syntax, notation, axiom, sorry.
-/
import Derived.Test.YthboapfbgdcdoaaDoorRows
import GoSem.ClaimSeven
namespace Go.Proofs.YthboapfbgdcdoaaDoor
namespace Rows

/-- THE TIED CARD OF 'spandrellaw7.DecodeNumbers'. -/
def decodeNumbersCard : Claim7 := { stood := { row := decodeNumbersRow, standIns := [], harness := (true, "1378bc2f91c2fdb73cbbf54c8f19b4f8477f5154ffda83006c66a95b034909f5"), looks := false }, kinds := [], alts := [], laidByText := true, laidKinds := [.data, .data], laidTests := true, laidLooks := .later }
def DecodeNumbersCardSaid : Prop := Claim7.holds Tryd.pinned (.plain (OpenSpec.ofChange decodeNumbersSpec)) decodeNumbersCard

/-- THE TIED CARD OF 'spandrellaw7.DecodeDecodes'. -/
def decodeDecodesCard : Claim7 := { stood := { row := decodeDecodesRow, standIns := [], harness := (true, "1378bc2f91c2fdb73cbbf54c8f19b4f8477f5154ffda83006c66a95b034909f5"), looks := false }, kinds := [], alts := [], laidByText := true, laidKinds := [.data, .data], laidTests := true, laidLooks := .later }
def DecodeDecodesCardSaid : Prop := Claim7.holds Tryd.pinned (.plain (OpenSpec.ofChange decodeDecodesSpec)) decodeDecodesCard

/-- THE TIED CARD OF 'spandrellaw7.DecodeBack'. -/
def decodeBackCard : Claim7 := { stood := { row := decodeBackRow, standIns := [], harness := (true, "1378bc2f91c2fdb73cbbf54c8f19b4f8477f5154ffda83006c66a95b034909f5"), looks := false }, kinds := [], alts := [], laidByText := true, laidKinds := [.data, .data], laidTests := true, laidLooks := .later }
def DecodeBackCardSaid : Prop := Claim7.holds Tryd.pinned (.plain (OpenSpec.ofChange decodeBackSpec)) decodeBackCard

/-- THE TIED CARD OF 'spandrellaw7.DecodeAll'. -/
def decodeAllCard : Claim7 := { stood := { row := decodeAllRow, standIns := [], harness := (true, "1378bc2f91c2fdb73cbbf54c8f19b4f8477f5154ffda83006c66a95b034909f5"), looks := false }, kinds := [], alts := [], laidByText := true, laidKinds := [.data, .data], laidTests := true, laidLooks := .later }
def DecodeAllCardSaid : Prop := Claim7.holds Tryd.pinned (.plain (OpenSpec.ofChange decodeAllSpec)) decodeAllCard

/-- THE TIED CARD OF 'spandrellaw7.DecodeRow'. -/
def decodeRowCard : Claim7 := { stood := { row := decodeRowRow, standIns := [], harness := (true, "1378bc2f91c2fdb73cbbf54c8f19b4f8477f5154ffda83006c66a95b034909f5"), looks := false }, kinds := [], alts := [], laidByText := true, laidKinds := [.data, .data], laidTests := true, laidLooks := .later }
def DecodeRowCardSaid : Prop := Claim7.holds Tryd.pinned (.plain (OpenSpec.ofChange decodeRowSpec)) decodeRowCard

/-- THE SECOND FORM's CARD OF 'spandrellaw7.DecodeNumbers'. -/
def decodeNumbersUptoCard : Claim7 := { stood := { row := decodeNumbersUptoRow, standIns := [], harness := (true, "1378bc2f91c2fdb73cbbf54c8f19b4f8477f5154ffda83006c66a95b034909f5"), looks := false }, kinds := [], alts := [], laidByText := true, laidKinds := [.data, .data], laidTests := true, laidLooks := .later }
def DecodeNumbersUptoCardSaid : Prop := Claim7.holds Tryd.pinned (.plain (OpenSpec.upto decodeNumbersSpec)) decodeNumbersUptoCard

/-- THE SECOND FORM's CARD OF 'spandrellaw7.DecodeDecodes'. -/
def decodeDecodesUptoCard : Claim7 := { stood := { row := decodeDecodesUptoRow, standIns := [], harness := (true, "1378bc2f91c2fdb73cbbf54c8f19b4f8477f5154ffda83006c66a95b034909f5"), looks := false }, kinds := [], alts := [], laidByText := true, laidKinds := [.data, .data], laidTests := true, laidLooks := .later }
def DecodeDecodesUptoCardSaid : Prop := Claim7.holds Tryd.pinned (.plain (OpenSpec.upto decodeDecodesSpec)) decodeDecodesUptoCard

/-- THE SECOND FORM's CARD OF 'spandrellaw7.DecodeBack'. -/
def decodeBackUptoCard : Claim7 := { stood := { row := decodeBackUptoRow, standIns := [], harness := (true, "1378bc2f91c2fdb73cbbf54c8f19b4f8477f5154ffda83006c66a95b034909f5"), looks := false }, kinds := [], alts := [], laidByText := true, laidKinds := [.data, .data], laidTests := true, laidLooks := .later }
def DecodeBackUptoCardSaid : Prop := Claim7.holds Tryd.pinned (.plain (OpenSpec.upto decodeBackSpec)) decodeBackUptoCard

/-- THE SECOND FORM's CARD OF 'spandrellaw7.DecodeAll'. -/
def decodeAllUptoCard : Claim7 := { stood := { row := decodeAllUptoRow, standIns := [], harness := (true, "1378bc2f91c2fdb73cbbf54c8f19b4f8477f5154ffda83006c66a95b034909f5"), looks := false }, kinds := [], alts := [], laidByText := true, laidKinds := [.data, .data], laidTests := true, laidLooks := .later }
def DecodeAllUptoCardSaid : Prop := Claim7.holds Tryd.pinned (.plain (OpenSpec.upto decodeAllSpec)) decodeAllUptoCard

/-- THE SECOND FORM's CARD OF 'spandrellaw7.DecodeRow'. -/
def decodeRowUptoCard : Claim7 := { stood := { row := decodeRowUptoRow, standIns := [], harness := (true, "1378bc2f91c2fdb73cbbf54c8f19b4f8477f5154ffda83006c66a95b034909f5"), looks := false }, kinds := [], alts := [], laidByText := true, laidKinds := [.data, .data], laidTests := true, laidLooks := .later }
def DecodeRowUptoCardSaid : Prop := Claim7.holds Tryd.pinned (.plain (OpenSpec.upto decodeRowSpec)) decodeRowUptoCard
end Rows
end Go.Proofs.YthboapfbgdcdoaaDoor
