/-
  DERIVED. GIVEN WITH THE SEED: THE CARDS: each row of YthcaeihpdlgcaaaDoorRows.lean that lists a variable, with what it lists TIED to the program's text (the seventh form; the later family's looks); each row that meets fmt, with fmt's text TOLD by the authors' own Lean function (tested against real Go, not proved from fmt's source: count such statements apart). THE CARD IS WHAT COUNTS. Prove the row's statement (the work); the ties are given (YthcaeihpdlgcaaaDoorTie.lean); close each card by the builder's one call (the guide's Derived/Test/ToyasCard.lean, 'card_holds'). Laid BY PROGRAM, IN A SANDBOX (cutbox-door.mjs). By AI agents, Wed Nov 11 2026. No macro, syntax, notation, axiom, sorry.
-/
import Derived.Test.YthcaeihpdlgcaaaDoorRows
import GoSem.ClaimSeven
namespace Go.Proofs.YthcaeihpdlgcaaaDoor
namespace Rows

/-- THE TIED CARD OF 'headgatelaw16.SenseBytes'. -/
def senseBytesCard : Claim7 := { stood := { row := senseBytesRow, standIns := [], harness := (true, "50596c6e4a31204c691c20b0dd8f814a17d3e0e0163c9740de64167e90ca951b"), looks := false }, kinds := [], alts := [], laidByText := true, laidKinds := [.data], laidTests := true, laidLooks := .later }
def SenseBytesCardSaid : Prop := Claim7.holds Tryd.pinned (.plain (OpenSpec.ofChange senseBytesSpec)) senseBytesCard

/-- THE TIED CARD OF 'headgatelaw16.SenseOf'. -/
def senseOfCard : Claim7 := { stood := { row := senseOfRow, standIns := [], harness := (true, "50596c6e4a31204c691c20b0dd8f814a17d3e0e0163c9740de64167e90ca951b"), looks := false }, kinds := [], alts := [], laidByText := true, laidKinds := [.data], laidTests := true, laidLooks := .later }
def SenseOfCardSaid : Prop := Claim7.holds Tryd.pinned (.plain (OpenSpec.ofChange senseOfSpec)) senseOfCard

/-- THE TIED CARD OF 'headgatelaw16.SenseBack'. -/
def senseBackCard : Claim7 := { stood := { row := senseBackRow, standIns := [], harness := (true, "50596c6e4a31204c691c20b0dd8f814a17d3e0e0163c9740de64167e90ca951b"), looks := false }, kinds := [], alts := [], laidByText := true, laidKinds := [.data], laidTests := true, laidLooks := .later }
def SenseBackCardSaid : Prop := Claim7.holds Tryd.pinned (.plain (OpenSpec.ofChange senseBackSpec)) senseBackCard

/-- THE TIED CARD OF 'headgatelaw16.SenseCodes'. -/
def senseCodesCard : Claim7 := { stood := { row := senseCodesRow, standIns := [], harness := (true, "50596c6e4a31204c691c20b0dd8f814a17d3e0e0163c9740de64167e90ca951b"), looks := false }, kinds := [], alts := [], laidByText := true, laidKinds := [.data], laidTests := true, laidLooks := .later }
def SenseCodesCardSaid : Prop := Claim7.holds Tryd.pinned (.plain (OpenSpec.ofChange senseCodesSpec)) senseCodesCard

/-- THE SECOND FORM's CARD OF 'headgatelaw16.SenseBytes'. -/
def senseBytesUptoCard : Claim7 := { stood := { row := senseBytesUptoRow, standIns := [], harness := (true, "50596c6e4a31204c691c20b0dd8f814a17d3e0e0163c9740de64167e90ca951b"), looks := false }, kinds := [], alts := [], laidByText := true, laidKinds := [.data], laidTests := true, laidLooks := .later }
def SenseBytesUptoCardSaid : Prop := Claim7.holds Tryd.pinned (.plain (OpenSpec.upto senseBytesSpec)) senseBytesUptoCard

/-- THE SECOND FORM's CARD OF 'headgatelaw16.SenseOf'. -/
def senseOfUptoCard : Claim7 := { stood := { row := senseOfUptoRow, standIns := [], harness := (true, "50596c6e4a31204c691c20b0dd8f814a17d3e0e0163c9740de64167e90ca951b"), looks := false }, kinds := [], alts := [], laidByText := true, laidKinds := [.data], laidTests := true, laidLooks := .later }
def SenseOfUptoCardSaid : Prop := Claim7.holds Tryd.pinned (.plain (OpenSpec.upto senseOfSpec)) senseOfUptoCard

/-- THE SECOND FORM's CARD OF 'headgatelaw16.SenseBack'. -/
def senseBackUptoCard : Claim7 := { stood := { row := senseBackUptoRow, standIns := [], harness := (true, "50596c6e4a31204c691c20b0dd8f814a17d3e0e0163c9740de64167e90ca951b"), looks := false }, kinds := [], alts := [], laidByText := true, laidKinds := [.data], laidTests := true, laidLooks := .later }
def SenseBackUptoCardSaid : Prop := Claim7.holds Tryd.pinned (.plain (OpenSpec.upto senseBackSpec)) senseBackUptoCard

/-- THE SECOND FORM's CARD OF 'headgatelaw16.SenseCodes'. -/
def senseCodesUptoCard : Claim7 := { stood := { row := senseCodesUptoRow, standIns := [], harness := (true, "50596c6e4a31204c691c20b0dd8f814a17d3e0e0163c9740de64167e90ca951b"), looks := false }, kinds := [], alts := [], laidByText := true, laidKinds := [.data], laidTests := true, laidLooks := .later }
def SenseCodesUptoCardSaid : Prop := Claim7.holds Tryd.pinned (.plain (OpenSpec.upto senseCodesSpec)) senseCodesUptoCard
end Rows
end Go.Proofs.YthcaeihpdlgcaaaDoor
