/-
  DERIVED. GIVEN WITH THE SEED: THE CARDS: each row of YtehfmapbodjppaaDoorRows.lean that lists a variable, with what it lists TIED to the program's text (the seventh form; the later family's looks); each row that meets fmt, with fmt's text TOLD by the authors' own Lean function (tested against real Go, not proved from fmt's source: count such statements apart). THE CARD IS WHAT COUNTS. Prove the row's statement (the work); the ties are given (YtehfmapbodjppaaDoorTie.lean); close each card by the builder's one call (the guide's Derived/Test/ToyasCard.lean, 'card_holds'). Laid BY PROGRAM, IN A SANDBOX (cutbox-door.mjs). By AI agents, Wed Nov 11 2026. No macro, syntax, notation, axiom, sorry.
-/
import Derived.Test.YtehfmapbodjppaaDoorRows
import GoSem.ClaimSeven
namespace Go.Proofs.YtehfmapbodjppaaDoor
namespace Rows

/-- THE TIED CARD OF 'limewashlaw05.ScanDoes'. -/
def scanDoesCard : Claim7 := { stood := { row := scanDoesRow, standIns := [], harness := (true, "80a6e987ab988426ff9379b8a4ef6efa51e4351a2599225d2466fc4890519d9e"), looks := false }, kinds := [], alts := [], laidByText := true, laidKinds := [.data, .data, .data, .data, .pinned], laidTests := true, laidLooks := .later }
def ScanDoesCardSaid : Prop := Claim7.holds Tryd.pinned (.plain (OpenSpec.ofChange scanDoesSpec)) scanDoesCard

/-- THE TIED CARD OF 'limewashlaw05.ScanBack'. -/
def scanBackCard : Claim7 := { stood := { row := scanBackRow, standIns := [], harness := (true, "80a6e987ab988426ff9379b8a4ef6efa51e4351a2599225d2466fc4890519d9e"), looks := false }, kinds := [], alts := [], laidByText := true, laidKinds := [.data, .data, .data, .data, .pinned], laidTests := true, laidLooks := .later }
def ScanBackCardSaid : Prop := Claim7.holds Tryd.pinned (.plain (OpenSpec.ofChange scanBackSpec)) scanBackCard

/-- THE TIED CARD OF 'limewashlaw05.ScanMore'. -/
def scanMoreCard : Claim7 := { stood := { row := scanMoreRow, standIns := [], harness := (true, "80a6e987ab988426ff9379b8a4ef6efa51e4351a2599225d2466fc4890519d9e"), looks := false }, kinds := [], alts := [], laidByText := true, laidKinds := [.data, .data, .data, .data, .pinned], laidTests := true, laidLooks := .later }
def ScanMoreCardSaid : Prop := Claim7.holds Tryd.pinned (.plain (OpenSpec.ofChange scanMoreSpec)) scanMoreCard

/-- THE TIED CARD OF 'limewashlaw05.ScanSides'. -/
def scanSidesCard : Claim7 := { stood := { row := scanSidesRow, standIns := [], harness := (true, "80a6e987ab988426ff9379b8a4ef6efa51e4351a2599225d2466fc4890519d9e"), looks := false }, kinds := [], alts := [], laidByText := true, laidKinds := [.data, .data, .data, .data, .pinned], laidTests := true, laidLooks := .later }
def ScanSidesCardSaid : Prop := Claim7.holds Tryd.pinned (.plain (OpenSpec.ofChange scanSidesSpec)) scanSidesCard

/-- THE TIED CARD OF 'limewashlaw05.ScanWhole'. -/
def scanWholeCard : Claim7 := { stood := { row := scanWholeRow, standIns := [], harness := (true, "80a6e987ab988426ff9379b8a4ef6efa51e4351a2599225d2466fc4890519d9e"), looks := false }, kinds := [], alts := [], laidByText := true, laidKinds := [.data, .data, .data, .data, .pinned], laidTests := true, laidLooks := .later }
def ScanWholeCardSaid : Prop := Claim7.holds Tryd.pinned (.plain (OpenSpec.ofChange scanWholeSpec)) scanWholeCard

/-- THE SECOND FORM's CARD OF 'limewashlaw05.ScanDoes'. -/
def scanDoesUptoCard : Claim7 := { stood := { row := scanDoesUptoRow, standIns := [], harness := (true, "80a6e987ab988426ff9379b8a4ef6efa51e4351a2599225d2466fc4890519d9e"), looks := false }, kinds := [], alts := [], laidByText := true, laidKinds := [.data, .data, .data, .data, .pinned], laidTests := true, laidLooks := .later }
def ScanDoesUptoCardSaid : Prop := Claim7.holds Tryd.pinned (.plain (OpenSpec.upto scanDoesSpec)) scanDoesUptoCard

/-- THE SECOND FORM's CARD OF 'limewashlaw05.ScanBack'. -/
def scanBackUptoCard : Claim7 := { stood := { row := scanBackUptoRow, standIns := [], harness := (true, "80a6e987ab988426ff9379b8a4ef6efa51e4351a2599225d2466fc4890519d9e"), looks := false }, kinds := [], alts := [], laidByText := true, laidKinds := [.data, .data, .data, .data, .pinned], laidTests := true, laidLooks := .later }
def ScanBackUptoCardSaid : Prop := Claim7.holds Tryd.pinned (.plain (OpenSpec.upto scanBackSpec)) scanBackUptoCard

/-- THE SECOND FORM's CARD OF 'limewashlaw05.ScanMore'. -/
def scanMoreUptoCard : Claim7 := { stood := { row := scanMoreUptoRow, standIns := [], harness := (true, "80a6e987ab988426ff9379b8a4ef6efa51e4351a2599225d2466fc4890519d9e"), looks := false }, kinds := [], alts := [], laidByText := true, laidKinds := [.data, .data, .data, .data, .pinned], laidTests := true, laidLooks := .later }
def ScanMoreUptoCardSaid : Prop := Claim7.holds Tryd.pinned (.plain (OpenSpec.upto scanMoreSpec)) scanMoreUptoCard

/-- THE SECOND FORM's CARD OF 'limewashlaw05.ScanSides'. -/
def scanSidesUptoCard : Claim7 := { stood := { row := scanSidesUptoRow, standIns := [], harness := (true, "80a6e987ab988426ff9379b8a4ef6efa51e4351a2599225d2466fc4890519d9e"), looks := false }, kinds := [], alts := [], laidByText := true, laidKinds := [.data, .data, .data, .data, .pinned], laidTests := true, laidLooks := .later }
def ScanSidesUptoCardSaid : Prop := Claim7.holds Tryd.pinned (.plain (OpenSpec.upto scanSidesSpec)) scanSidesUptoCard

/-- THE SECOND FORM's CARD OF 'limewashlaw05.ScanWhole'. -/
def scanWholeUptoCard : Claim7 := { stood := { row := scanWholeUptoRow, standIns := [], harness := (true, "80a6e987ab988426ff9379b8a4ef6efa51e4351a2599225d2466fc4890519d9e"), looks := false }, kinds := [], alts := [], laidByText := true, laidKinds := [.data, .data, .data, .data, .pinned], laidTests := true, laidLooks := .later }
def ScanWholeUptoCardSaid : Prop := Claim7.holds Tryd.pinned (.plain (OpenSpec.upto scanWholeSpec)) scanWholeUptoCard
end Rows
end Go.Proofs.YtehfmapbodjppaaDoor
