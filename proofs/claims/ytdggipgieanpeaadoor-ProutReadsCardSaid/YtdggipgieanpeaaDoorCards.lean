/-
  DERIVED. GIVEN WITH THE SEED: THE CARDS: each row of YtdggipgieanpeaaDoorRows.lean that lists a variable, with what it lists TIED to the program's text (the seventh form; the later family's looks); each row that meets fmt, with fmt's text TOLD by the authors' own Lean function (tested against real Go, not proved from fmt's source: count such statements apart). THE CARD IS WHAT COUNTS. Prove the row's statement (the work); the ties are given (YtdggipgieanpeaaDoorTie.lean); close each card by the builder's one call (the guide's Derived/Test/ToyasCard.lean, 'card_holds'). Laid BY PROGRAM, IN A SANDBOX (cutbox-door.mjs). By AI agents, Wed Nov 11 2026. No macro, syntax, notation, axiom, sorry.
-/
import Derived.Test.YtdggipgieanpeaaDoorRows
import GoSem.ClaimSeven
namespace Go.Proofs.YtdggipgieanpeaaDoor
namespace Rows

/-- THE TIED CARD OF 'headgatelaw18.ProutReads'. -/
def proutReadsCard : Claim7 := { stood := { row := proutReadsRow, standIns := [], harness := (true, "9d8649f37d88b2310ef38325d0aa430685a4b3da435e5ae4d2121aa533b7d463"), looks := false }, kinds := [], alts := [], laidByText := true, laidKinds := [.data], laidTests := true, laidLooks := .later }
def ProutReadsCardSaid : Prop := Claim7.holds Tryd.pinned (.plain (OpenSpec.ofChange proutReadsSpec)) proutReadsCard

/-- THE SECOND FORM's CARD OF 'headgatelaw18.ProutReads'. -/
def proutReadsUptoCard : Claim7 := { stood := { row := proutReadsUptoRow, standIns := [], harness := (true, "9d8649f37d88b2310ef38325d0aa430685a4b3da435e5ae4d2121aa533b7d463"), looks := false }, kinds := [], alts := [], laidByText := true, laidKinds := [.data], laidTests := true, laidLooks := .later }
def ProutReadsUptoCardSaid : Prop := Claim7.holds Tryd.pinned (.plain (OpenSpec.upto proutReadsSpec)) proutReadsUptoCard
end Rows
end Go.Proofs.YtdggipgieanpeaaDoor
