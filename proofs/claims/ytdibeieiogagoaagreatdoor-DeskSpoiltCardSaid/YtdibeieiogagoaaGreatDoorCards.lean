/-
  DERIVED. GIVEN WITH THE SEED: THE CARDS: each row of YtdibeieiogagoaaGreatDoorRows.lean that lists a variable, with what it lists TIED to the program's text (the seventh form; the later family's looks); each row that meets fmt, with fmt's text TOLD by the authors' own Lean function (tested against real Go, not proved from fmt's source: count such statements apart). THE CARD IS WHAT COUNTS. Prove the row's statement (the work); the ties are given (YtdibeieiogagoaaGreatDoorTie.lean); close each card by the builder's one call (the guide's Derived/Test/ToyasCard.lean, 'card_holds'). Laid BY PROGRAM, IN A SANDBOX (cutbox-door.mjs). By AI agents, Wed Nov 11 2026. No macro, syntax, notation, axiom, sorry.
-/
import Derived.Test.YtdibeieiogagoaaGreatDoorRows
import GoSem.ClaimSeven
namespace Go.Proofs.YtdibeieiogagoaaGreatDoor
namespace Rows

/-- THE TIED CARD OF 'masonrylaw11.DeskPlays'. -/
def deskPlaysCard : Claim7 := { stood := { row := deskPlaysRow, standIns := [], harness := (true, "5f6c7fade944f4176ad1bdf8ce3fe3205c70c7923dfe92529c464060043034bc"), looks := true }, kinds := [], alts := [], laidByText := true, laidKinds := [.data, .pinned], laidTests := true, laidLooks := .later }
def DeskPlaysCardSaid : Prop := Claim7.holds Tryz.pinned (.plain (OpenSpec.ofChange deskPlaysSpec)) deskPlaysCard

/-- THE TIED CARD OF 'masonrylaw11.DeskSpoilt'. -/
def deskSpoiltCard : Claim7 := { stood := { row := deskSpoiltRow, standIns := [], harness := (true, "5f6c7fade944f4176ad1bdf8ce3fe3205c70c7923dfe92529c464060043034bc"), looks := true }, kinds := [], alts := [], laidByText := true, laidKinds := [.data, .pinned], laidTests := true, laidLooks := .later }
def DeskSpoiltCardSaid : Prop := Claim7.holds Tryz.pinned (.plain (OpenSpec.ofChange deskSpoiltSpec)) deskSpoiltCard

/-- THE TIED CARD OF 'masonrylaw11.DeskBacks'. -/
def deskBacksCard : Claim7 := { stood := { row := deskBacksRow, standIns := [], harness := (true, "5f6c7fade944f4176ad1bdf8ce3fe3205c70c7923dfe92529c464060043034bc"), looks := true }, kinds := [], alts := [], laidByText := true, laidKinds := [.data, .pinned], laidTests := true, laidLooks := .later }
def DeskBacksCardSaid : Prop := Claim7.holds Tryz.pinned (.plain (OpenSpec.ofChange deskBacksSpec)) deskBacksCard

/-- THE TIED CARD OF 'masonrylaw11.DeskLarge'. -/
def deskLargeCard : Claim7 := { stood := { row := deskLargeRow, standIns := [], harness := (true, "5f6c7fade944f4176ad1bdf8ce3fe3205c70c7923dfe92529c464060043034bc"), looks := true }, kinds := [], alts := [], laidByText := true, laidKinds := [.data, .pinned], laidTests := true, laidLooks := .later }
def DeskLargeCardSaid : Prop := Claim7.holds Tryz.pinned (.plain (OpenSpec.ofChange deskLargeSpec)) deskLargeCard

/-- THE SECOND FORM's CARD OF 'masonrylaw11.DeskPlays'. -/
def deskPlaysUptoCard : Claim7 := { stood := { row := deskPlaysUptoRow, standIns := [], harness := (true, "5f6c7fade944f4176ad1bdf8ce3fe3205c70c7923dfe92529c464060043034bc"), looks := true }, kinds := [], alts := [], laidByText := true, laidKinds := [.data, .pinned], laidTests := true, laidLooks := .later }
def DeskPlaysUptoCardSaid : Prop := Claim7.holds Tryz.pinned (.plain (OpenSpec.upto deskPlaysSpec)) deskPlaysUptoCard

/-- THE SECOND FORM's CARD OF 'masonrylaw11.DeskSpoilt'. -/
def deskSpoiltUptoCard : Claim7 := { stood := { row := deskSpoiltUptoRow, standIns := [], harness := (true, "5f6c7fade944f4176ad1bdf8ce3fe3205c70c7923dfe92529c464060043034bc"), looks := true }, kinds := [], alts := [], laidByText := true, laidKinds := [.data, .pinned], laidTests := true, laidLooks := .later }
def DeskSpoiltUptoCardSaid : Prop := Claim7.holds Tryz.pinned (.plain (OpenSpec.upto deskSpoiltSpec)) deskSpoiltUptoCard

/-- THE SECOND FORM's CARD OF 'masonrylaw11.DeskBacks'. -/
def deskBacksUptoCard : Claim7 := { stood := { row := deskBacksUptoRow, standIns := [], harness := (true, "5f6c7fade944f4176ad1bdf8ce3fe3205c70c7923dfe92529c464060043034bc"), looks := true }, kinds := [], alts := [], laidByText := true, laidKinds := [.data, .pinned], laidTests := true, laidLooks := .later }
def DeskBacksUptoCardSaid : Prop := Claim7.holds Tryz.pinned (.plain (OpenSpec.upto deskBacksSpec)) deskBacksUptoCard

/-- THE SECOND FORM's CARD OF 'masonrylaw11.DeskLarge'. -/
def deskLargeUptoCard : Claim7 := { stood := { row := deskLargeUptoRow, standIns := [], harness := (true, "5f6c7fade944f4176ad1bdf8ce3fe3205c70c7923dfe92529c464060043034bc"), looks := true }, kinds := [], alts := [], laidByText := true, laidKinds := [.data, .pinned], laidTests := true, laidLooks := .later }
def DeskLargeUptoCardSaid : Prop := Claim7.holds Tryz.pinned (.plain (OpenSpec.upto deskLargeSpec)) deskLargeUptoCard
end Rows
end Go.Proofs.YtdibeieiogagoaaGreatDoor
