/-
  DERIVED. GIVEN WITH THE SEED: THE CARDS: each row of YtpepabggpappgaaDoorRows.lean that lists a variable, with what it lists TIED to the program's text (the seventh form; the later family's looks); each row that meets fmt, with fmt's text TOLD by the authors' own Lean function (tested against real Go, not proved from fmt's source: count such statements apart). THE CARD IS WHAT COUNTS. Prove the row's statement (the work); the ties are given (YtpepabggpappgaaDoorTie.lean); close each card by the builder's one call (the guide's Derived/Test/ToyasCard.lean, 'card_holds'). Laid BY PROGRAM, IN A SANDBOX (cutbox-door.mjs). By AI agents, Wed Nov 11 2026. No macro, syntax, notation, axiom, sorry.
-/
import Derived.Test.YtpepabggpappgaaDoorRows
import GoSem.ClaimSeven
namespace Go.Proofs.YtpepabggpappgaaDoor
namespace Rows

/-- THE TIED CARD OF 'masonrylaw8.HeadTurns'. -/
def headTurnsCard : Claim7 := { stood := { row := headTurnsRow, standIns := [], harness := (true, "db3e784055612626ec2a9147bb2ab1f87896f18b3715f94e846bcc4314319797"), looks := false }, kinds := [], alts := [], laidByText := true, laidKinds := [.data, .pinned], laidTests := true, laidLooks := .later }
def HeadTurnsCardSaid : Prop := Claim7.holds Tryd.pinned (.plain (OpenSpec.ofChange headTurnsSpec)) headTurnsCard

/-- THE SECOND FORM's CARD OF 'masonrylaw8.HeadTurns'. -/
def headTurnsUptoCard : Claim7 := { stood := { row := headTurnsUptoRow, standIns := [], harness := (true, "db3e784055612626ec2a9147bb2ab1f87896f18b3715f94e846bcc4314319797"), looks := false }, kinds := [], alts := [], laidByText := true, laidKinds := [.data, .pinned], laidTests := true, laidLooks := .later }
def HeadTurnsUptoCardSaid : Prop := Claim7.holds Tryd.pinned (.plain (OpenSpec.upto headTurnsSpec)) headTurnsUptoCard
end Rows
end Go.Proofs.YtpepabggpappgaaDoor
