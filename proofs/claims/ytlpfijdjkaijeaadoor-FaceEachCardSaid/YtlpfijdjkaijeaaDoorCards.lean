/-
  DERIVED. GIVEN WITH THE SEED: THE CARDS: each row of YtlpfijdjkaijeaaDoorRows.lean that lists a variable, with what it lists TIED to the program's text (the seventh form; the later family's looks); each row that meets fmt, with fmt's text TOLD by the authors' own Lean function (tested against real Go, not proved from fmt's source: count such statements apart). THE CARD IS WHAT COUNTS. Prove the row's statement (the work); the ties are given (YtlpfijdjkaijeaaDoorTie.lean); close each card by the builder's one call (the guide's Derived/Test/ToyasCard.lean, 'card_holds'). Laid BY PROGRAM, IN A SANDBOX (cutbox-door.mjs). By AI agents, Wed Nov 11 2026. No macro, syntax, notation, axiom, sorry.
-/
import Derived.Test.YtlpfijdjkaijeaaDoorRows
import GoSem.ClaimSeven
namespace Go.Proofs.YtlpfijdjkaijeaaDoor
namespace Rows

/-- THE TIED CARD OF 'limewashlaw07.FaceDoes'. -/
def faceDoesCard : Claim7 := { stood := { row := faceDoesRow, standIns := [], harness := (true, "18dbc36a43930d9a70883950bf26c3d779f1113b2c4233fa5c28246e887c2300"), looks := true }, kinds := [], alts := [], laidByText := true, laidKinds := [.data, .data, .data, .data, .pinned], laidTests := true, laidLooks := .later }
def FaceDoesCardSaid : Prop := Claim7.holds Tryd.pinned (.plain (OpenSpec.ofChange faceDoesSpec)) faceDoesCard

/-- THE TIED CARD OF 'limewashlaw07.FaceBack'. -/
def faceBackCard : Claim7 := { stood := { row := faceBackRow, standIns := [], harness := (true, "18dbc36a43930d9a70883950bf26c3d779f1113b2c4233fa5c28246e887c2300"), looks := true }, kinds := [], alts := [], laidByText := true, laidKinds := [.data, .data, .data, .data, .pinned], laidTests := true, laidLooks := .later }
def FaceBackCardSaid : Prop := Claim7.holds Tryd.pinned (.plain (OpenSpec.ofChange faceBackSpec)) faceBackCard

/-- THE TIED CARD OF 'limewashlaw07.FaceBelow'. -/
def faceBelowCard : Claim7 := { stood := { row := faceBelowRow, standIns := [], harness := (true, "18dbc36a43930d9a70883950bf26c3d779f1113b2c4233fa5c28246e887c2300"), looks := true }, kinds := [], alts := [], laidByText := true, laidKinds := [.data, .data, .data, .data, .pinned], laidTests := true, laidLooks := .later }
def FaceBelowCardSaid : Prop := Claim7.holds Tryd.pinned (.plain (OpenSpec.ofChange faceBelowSpec)) faceBelowCard

/-- THE TIED CARD OF 'limewashlaw07.FaceFan'. -/
def faceFanCard : Claim7 := { stood := { row := faceFanRow, standIns := [], harness := (true, "18dbc36a43930d9a70883950bf26c3d779f1113b2c4233fa5c28246e887c2300"), looks := true }, kinds := [], alts := [], laidByText := true, laidKinds := [.data, .data, .data, .data, .pinned], laidTests := true, laidLooks := .later }
def FaceFanCardSaid : Prop := Claim7.holds Tryd.pinned (.plain (OpenSpec.ofChange faceFanSpec)) faceFanCard

/-- THE TIED CARD OF 'limewashlaw07.FaceEach'. -/
def faceEachCard : Claim7 := { stood := { row := faceEachRow, standIns := [], harness := (true, "18dbc36a43930d9a70883950bf26c3d779f1113b2c4233fa5c28246e887c2300"), looks := true }, kinds := [], alts := [], laidByText := true, laidKinds := [.data, .data, .data, .data, .pinned], laidTests := true, laidLooks := .later }
def FaceEachCardSaid : Prop := Claim7.holds Tryd.pinned (.plain (OpenSpec.ofChange faceEachSpec)) faceEachCard

/-- THE SECOND FORM's CARD OF 'limewashlaw07.FaceDoes'. -/
def faceDoesUptoCard : Claim7 := { stood := { row := faceDoesUptoRow, standIns := [], harness := (true, "18dbc36a43930d9a70883950bf26c3d779f1113b2c4233fa5c28246e887c2300"), looks := true }, kinds := [], alts := [], laidByText := true, laidKinds := [.data, .data, .data, .data, .pinned], laidTests := true, laidLooks := .later }
def FaceDoesUptoCardSaid : Prop := Claim7.holds Tryd.pinned (.plain (OpenSpec.upto faceDoesSpec)) faceDoesUptoCard

/-- THE SECOND FORM's CARD OF 'limewashlaw07.FaceBack'. -/
def faceBackUptoCard : Claim7 := { stood := { row := faceBackUptoRow, standIns := [], harness := (true, "18dbc36a43930d9a70883950bf26c3d779f1113b2c4233fa5c28246e887c2300"), looks := true }, kinds := [], alts := [], laidByText := true, laidKinds := [.data, .data, .data, .data, .pinned], laidTests := true, laidLooks := .later }
def FaceBackUptoCardSaid : Prop := Claim7.holds Tryd.pinned (.plain (OpenSpec.upto faceBackSpec)) faceBackUptoCard

/-- THE SECOND FORM's CARD OF 'limewashlaw07.FaceBelow'. -/
def faceBelowUptoCard : Claim7 := { stood := { row := faceBelowUptoRow, standIns := [], harness := (true, "18dbc36a43930d9a70883950bf26c3d779f1113b2c4233fa5c28246e887c2300"), looks := true }, kinds := [], alts := [], laidByText := true, laidKinds := [.data, .data, .data, .data, .pinned], laidTests := true, laidLooks := .later }
def FaceBelowUptoCardSaid : Prop := Claim7.holds Tryd.pinned (.plain (OpenSpec.upto faceBelowSpec)) faceBelowUptoCard

/-- THE SECOND FORM's CARD OF 'limewashlaw07.FaceFan'. -/
def faceFanUptoCard : Claim7 := { stood := { row := faceFanUptoRow, standIns := [], harness := (true, "18dbc36a43930d9a70883950bf26c3d779f1113b2c4233fa5c28246e887c2300"), looks := true }, kinds := [], alts := [], laidByText := true, laidKinds := [.data, .data, .data, .data, .pinned], laidTests := true, laidLooks := .later }
def FaceFanUptoCardSaid : Prop := Claim7.holds Tryd.pinned (.plain (OpenSpec.upto faceFanSpec)) faceFanUptoCard

/-- THE SECOND FORM's CARD OF 'limewashlaw07.FaceEach'. -/
def faceEachUptoCard : Claim7 := { stood := { row := faceEachUptoRow, standIns := [], harness := (true, "18dbc36a43930d9a70883950bf26c3d779f1113b2c4233fa5c28246e887c2300"), looks := true }, kinds := [], alts := [], laidByText := true, laidKinds := [.data, .data, .data, .data, .pinned], laidTests := true, laidLooks := .later }
def FaceEachUptoCardSaid : Prop := Claim7.holds Tryd.pinned (.plain (OpenSpec.upto faceEachSpec)) faceEachUptoCard
end Rows
end Go.Proofs.YtlpfijdjkaijeaaDoor
