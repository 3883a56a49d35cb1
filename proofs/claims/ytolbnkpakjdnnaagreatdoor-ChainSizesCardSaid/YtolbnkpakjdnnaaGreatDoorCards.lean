/-
  DERIVED. GIVEN WITH THE SEED: THE CARDS: each row of YtolbnkpakjdnnaaGreatDoorRows.lean that lists a variable, with what it lists TIED to the program's text (the seventh form; the later family's looks); each row that meets fmt, with fmt's text TOLD by the authors' own Lean function (tested against real Go, not proved from fmt's source: count such statements apart). THE CARD IS WHAT COUNTS. Prove the row's statement (the work); the ties are given (YtolbnkpakjdnnaaGreatDoorTie.lean); close each card by the builder's one call (the guide's Derived/Test/ToyasCard.lean, 'card_holds'). Laid BY PROGRAM, IN A SANDBOX (cutbox-door.mjs). By AI agents, Wed Nov 11 2026. No macro, syntax, notation, axiom, sorry.
-/
import Derived.Test.YtolbnkpakjdnnaaGreatDoorRows
import GoSem.ClaimSeven
namespace Go.Proofs.YtolbnkpakjdnnaaGreatDoor
namespace Rows

/-- THE TIED CARD OF 'masonrylaw12.ChainPlays'. -/
def chainPlaysCard : Claim7 := { stood := { row := chainPlaysRow, standIns := [], harness := (true, "4deb36f56f6b244c41e3cf7e50b16497d3a4f41b45b53c8973e8e40e370f9c1b"), looks := true }, kinds := [], alts := [], laidByText := true, laidKinds := [.data, .pinned], laidTests := true, laidLooks := .later }
def ChainPlaysCardSaid : Prop := Claim7.holds Tryz.pinned (.plain (OpenSpec.ofChange chainPlaysSpec)) chainPlaysCard

/-- THE TIED CARD OF 'masonrylaw12.ChainSpoilt'. -/
def chainSpoiltCard : Claim7 := { stood := { row := chainSpoiltRow, standIns := [], harness := (true, "4deb36f56f6b244c41e3cf7e50b16497d3a4f41b45b53c8973e8e40e370f9c1b"), looks := true }, kinds := [], alts := [], laidByText := true, laidKinds := [.data, .pinned], laidTests := true, laidLooks := .later }
def ChainSpoiltCardSaid : Prop := Claim7.holds Tryz.pinned (.plain (OpenSpec.ofChange chainSpoiltSpec)) chainSpoiltCard

/-- THE TIED CARD OF 'masonrylaw12.ChainSizes'. -/
def chainSizesCard : Claim7 := { stood := { row := chainSizesRow, standIns := [], harness := (true, "4deb36f56f6b244c41e3cf7e50b16497d3a4f41b45b53c8973e8e40e370f9c1b"), looks := true }, kinds := [], alts := [], laidByText := true, laidKinds := [.data, .pinned], laidTests := true, laidLooks := .later }
def ChainSizesCardSaid : Prop := Claim7.holds Tryz.pinned (.plain (OpenSpec.ofChange chainSizesSpec)) chainSizesCard

/-- THE TIED CARD OF 'masonrylaw12.ChainRings'. -/
def chainRingsCard : Claim7 := { stood := { row := chainRingsRow, standIns := [], harness := (true, "4deb36f56f6b244c41e3cf7e50b16497d3a4f41b45b53c8973e8e40e370f9c1b"), looks := true }, kinds := [], alts := [], laidByText := true, laidKinds := [.data, .pinned], laidTests := true, laidLooks := .later }
def ChainRingsCardSaid : Prop := Claim7.holds Tryz.pinned (.plain (OpenSpec.ofChange chainRingsSpec)) chainRingsCard

/-- THE TIED CARD OF 'masonrylaw11.DeskPlays'. -/
def deskPlaysCard : Claim7 := { stood := { row := deskPlaysRow, standIns := [], harness := (true, "4deb36f56f6b244c41e3cf7e50b16497d3a4f41b45b53c8973e8e40e370f9c1b"), looks := true }, kinds := [], alts := [], laidByText := true, laidKinds := [.data, .pinned], laidTests := true, laidLooks := .later }
def DeskPlaysCardSaid : Prop := Claim7.holds Tryz.pinned (.plain (OpenSpec.ofChange deskPlaysSpec)) deskPlaysCard

/-- THE TIED CARD OF 'masonrylaw11.DeskBacks'. -/
def deskBacksCard : Claim7 := { stood := { row := deskBacksRow, standIns := [], harness := (true, "4deb36f56f6b244c41e3cf7e50b16497d3a4f41b45b53c8973e8e40e370f9c1b"), looks := true }, kinds := [], alts := [], laidByText := true, laidKinds := [.data, .pinned], laidTests := true, laidLooks := .later }
def DeskBacksCardSaid : Prop := Claim7.holds Tryz.pinned (.plain (OpenSpec.ofChange deskBacksSpec)) deskBacksCard

/-- THE SECOND FORM's CARD OF 'masonrylaw12.ChainPlays'. -/
def chainPlaysUptoCard : Claim7 := { stood := { row := chainPlaysUptoRow, standIns := [], harness := (true, "4deb36f56f6b244c41e3cf7e50b16497d3a4f41b45b53c8973e8e40e370f9c1b"), looks := true }, kinds := [], alts := [], laidByText := true, laidKinds := [.data, .pinned], laidTests := true, laidLooks := .later }
def ChainPlaysUptoCardSaid : Prop := Claim7.holds Tryz.pinned (.plain (OpenSpec.upto chainPlaysSpec)) chainPlaysUptoCard

/-- THE SECOND FORM's CARD OF 'masonrylaw12.ChainSpoilt'. -/
def chainSpoiltUptoCard : Claim7 := { stood := { row := chainSpoiltUptoRow, standIns := [], harness := (true, "4deb36f56f6b244c41e3cf7e50b16497d3a4f41b45b53c8973e8e40e370f9c1b"), looks := true }, kinds := [], alts := [], laidByText := true, laidKinds := [.data, .pinned], laidTests := true, laidLooks := .later }
def ChainSpoiltUptoCardSaid : Prop := Claim7.holds Tryz.pinned (.plain (OpenSpec.upto chainSpoiltSpec)) chainSpoiltUptoCard

/-- THE SECOND FORM's CARD OF 'masonrylaw12.ChainSizes'. -/
def chainSizesUptoCard : Claim7 := { stood := { row := chainSizesUptoRow, standIns := [], harness := (true, "4deb36f56f6b244c41e3cf7e50b16497d3a4f41b45b53c8973e8e40e370f9c1b"), looks := true }, kinds := [], alts := [], laidByText := true, laidKinds := [.data, .pinned], laidTests := true, laidLooks := .later }
def ChainSizesUptoCardSaid : Prop := Claim7.holds Tryz.pinned (.plain (OpenSpec.upto chainSizesSpec)) chainSizesUptoCard

/-- THE SECOND FORM's CARD OF 'masonrylaw12.ChainRings'. -/
def chainRingsUptoCard : Claim7 := { stood := { row := chainRingsUptoRow, standIns := [], harness := (true, "4deb36f56f6b244c41e3cf7e50b16497d3a4f41b45b53c8973e8e40e370f9c1b"), looks := true }, kinds := [], alts := [], laidByText := true, laidKinds := [.data, .pinned], laidTests := true, laidLooks := .later }
def ChainRingsUptoCardSaid : Prop := Claim7.holds Tryz.pinned (.plain (OpenSpec.upto chainRingsSpec)) chainRingsUptoCard

/-- THE SECOND FORM's CARD OF 'masonrylaw11.DeskPlays'. -/
def deskPlaysUptoCard : Claim7 := { stood := { row := deskPlaysUptoRow, standIns := [], harness := (true, "4deb36f56f6b244c41e3cf7e50b16497d3a4f41b45b53c8973e8e40e370f9c1b"), looks := true }, kinds := [], alts := [], laidByText := true, laidKinds := [.data, .pinned], laidTests := true, laidLooks := .later }
def DeskPlaysUptoCardSaid : Prop := Claim7.holds Tryz.pinned (.plain (OpenSpec.upto deskPlaysSpec)) deskPlaysUptoCard

/-- THE SECOND FORM's CARD OF 'masonrylaw11.DeskBacks'. -/
def deskBacksUptoCard : Claim7 := { stood := { row := deskBacksUptoRow, standIns := [], harness := (true, "4deb36f56f6b244c41e3cf7e50b16497d3a4f41b45b53c8973e8e40e370f9c1b"), looks := true }, kinds := [], alts := [], laidByText := true, laidKinds := [.data, .pinned], laidTests := true, laidLooks := .later }
def DeskBacksUptoCardSaid : Prop := Claim7.holds Tryz.pinned (.plain (OpenSpec.upto deskBacksSpec)) deskBacksUptoCard
end Rows
end Go.Proofs.YtolbnkpakjdnnaaGreatDoor
