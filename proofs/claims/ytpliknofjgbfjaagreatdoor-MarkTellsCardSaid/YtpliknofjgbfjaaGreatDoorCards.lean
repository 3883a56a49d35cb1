/-
  DERIVED. GIVEN WITH THE SEED: THE CARDS: each row of YtpliknofjgbfjaaGreatDoorRows.lean that lists a variable, with what it lists TIED to the program's text (the seventh form; the later family's looks); each row that meets fmt, with fmt's text TOLD by the authors' own Lean function (tested against real Go, not proved from fmt's source: count such statements apart). THE CARD IS WHAT COUNTS. Prove the row's statement (the work); the ties are given (YtpliknofjgbfjaaGreatDoorTie.lean); close each card by the builder's one call (the guide's Derived/Test/ToyasCard.lean, 'card_holds'). Laid BY PROGRAM, IN A SANDBOX (cutbox-door.mjs). By AI agents, Wed Nov 11 2026. No macro, syntax, notation, axiom, sorry.
-/
import Derived.Test.YtpliknofjgbfjaaGreatDoorRows
import GoSem.ClaimSeven
namespace Go.Proofs.YtpliknofjgbfjaaGreatDoor
namespace Rows

/-- THE TIED CARD OF 'masonrylaw6.MarkTells'. -/
def markTellsCard : Claim7 := { stood := { row := markTellsRow, standIns := [], harness := (true, "e302333c5f9ce1f95ed4620d647749c9ee5f7f5a3a3308ff55b9e77c8498cdee"), looks := false }, kinds := [], alts := [], laidByText := true, laidKinds := [.data, .pinned], laidTests := true, laidLooks := .later }
def MarkTellsCardSaid : Prop := Claim7.holds Tryz.pinned (.plain (OpenSpec.ofChange markTellsSpec)) markTellsCard

/-- THE SECOND FORM's CARD OF 'masonrylaw6.MarkTells'. -/
def markTellsUptoCard : Claim7 := { stood := { row := markTellsUptoRow, standIns := [], harness := (true, "e302333c5f9ce1f95ed4620d647749c9ee5f7f5a3a3308ff55b9e77c8498cdee"), looks := false }, kinds := [], alts := [], laidByText := true, laidKinds := [.data, .pinned], laidTests := true, laidLooks := .later }
def MarkTellsUptoCardSaid : Prop := Claim7.holds Tryz.pinned (.plain (OpenSpec.upto markTellsSpec)) markTellsUptoCard
end Rows
end Go.Proofs.YtpliknofjgbfjaaGreatDoor
