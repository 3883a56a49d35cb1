/-
  DERIVED. GIVEN WITH THE SEED: THE CARDS: each row of YtingkbeifohihaaGreatDoorRows.lean that lists a variable, with what it lists TIED to the program's text (the seventh form; the later family's looks); each row that meets fmt, with fmt's text TOLD by the authors' own Lean function (tested against real Go, not proved from fmt's source: count such statements apart). THE CARD IS WHAT COUNTS. Prove the row's statement (the work); the ties are given (YtingkbeifohihaaGreatDoorTie.lean); close each card by the builder's one call (the guide's Derived/Test/ToyasCard.lean, 'card_holds'). Laid BY PROGRAM, IN A SANDBOX (cutbox-door.mjs). By AI agents, Wed Nov 11 2026. No macro, syntax, notation, axiom, sorry.
-/
import Derived.Test.YtingkbeifohihaaGreatDoorRows
import GoSem.ClaimSeven
namespace Go.Proofs.YtingkbeifohihaaGreatDoor
namespace Rows

/-- THE TIED CARD OF 'masonrylaw16.BrickTells'. -/
def brickTellsCard : Claim7 := { stood := { row := brickTellsRow, standIns := [], harness := (true, "0c3d88521c62876b8aea6d7832d0df9f1a910bccfbbdc9e14bd318653288b37b"), looks := true }, kinds := [], alts := [], laidByText := true, laidKinds := [.data, .pinned], laidTests := true, laidLooks := .later }
def BrickTellsCardSaid : Prop := Claim7.holds Tryz.pinned (.plain (OpenSpec.ofChange brickTellsSpec)) brickTellsCard

/-- THE TIED CARD OF 'masonrylaw16.BrickSpoilt'. -/
def brickSpoiltCard : Claim7 := { stood := { row := brickSpoiltRow, standIns := [], harness := (true, "0c3d88521c62876b8aea6d7832d0df9f1a910bccfbbdc9e14bd318653288b37b"), looks := true }, kinds := [], alts := [], laidByText := true, laidKinds := [.data, .pinned], laidTests := true, laidLooks := .later }
def BrickSpoiltCardSaid : Prop := Claim7.holds Tryz.pinned (.plain (OpenSpec.ofChange brickSpoiltSpec)) brickSpoiltCard

/-- THE TIED CARD OF 'masonrylaw16.BrickMany'. -/
def brickManyCard : Claim7 := { stood := { row := brickManyRow, standIns := [], harness := (true, "0c3d88521c62876b8aea6d7832d0df9f1a910bccfbbdc9e14bd318653288b37b"), looks := true }, kinds := [], alts := [], laidByText := true, laidKinds := [.data, .pinned], laidTests := true, laidLooks := .later }
def BrickManyCardSaid : Prop := Claim7.holds Tryz.pinned (.plain (OpenSpec.ofChange brickManySpec)) brickManyCard

/-- THE SECOND FORM's CARD OF 'masonrylaw16.BrickTells'. -/
def brickTellsUptoCard : Claim7 := { stood := { row := brickTellsUptoRow, standIns := [], harness := (true, "0c3d88521c62876b8aea6d7832d0df9f1a910bccfbbdc9e14bd318653288b37b"), looks := true }, kinds := [], alts := [], laidByText := true, laidKinds := [.data, .pinned], laidTests := true, laidLooks := .later }
def BrickTellsUptoCardSaid : Prop := Claim7.holds Tryz.pinned (.plain (OpenSpec.upto brickTellsSpec)) brickTellsUptoCard

/-- THE SECOND FORM's CARD OF 'masonrylaw16.BrickSpoilt'. -/
def brickSpoiltUptoCard : Claim7 := { stood := { row := brickSpoiltUptoRow, standIns := [], harness := (true, "0c3d88521c62876b8aea6d7832d0df9f1a910bccfbbdc9e14bd318653288b37b"), looks := true }, kinds := [], alts := [], laidByText := true, laidKinds := [.data, .pinned], laidTests := true, laidLooks := .later }
def BrickSpoiltUptoCardSaid : Prop := Claim7.holds Tryz.pinned (.plain (OpenSpec.upto brickSpoiltSpec)) brickSpoiltUptoCard

/-- THE SECOND FORM's CARD OF 'masonrylaw16.BrickMany'. -/
def brickManyUptoCard : Claim7 := { stood := { row := brickManyUptoRow, standIns := [], harness := (true, "0c3d88521c62876b8aea6d7832d0df9f1a910bccfbbdc9e14bd318653288b37b"), looks := true }, kinds := [], alts := [], laidByText := true, laidKinds := [.data, .pinned], laidTests := true, laidLooks := .later }
def BrickManyUptoCardSaid : Prop := Claim7.holds Tryz.pinned (.plain (OpenSpec.upto brickManySpec)) brickManyUptoCard
end Rows
end Go.Proofs.YtingkbeifohihaaGreatDoor
