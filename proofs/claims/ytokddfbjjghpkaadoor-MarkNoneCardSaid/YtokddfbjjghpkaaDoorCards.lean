/-
  DERIVED. GIVEN WITH THE SEED: THE CARDS: each row of YtokddfbjjghpkaaDoorRows.lean that lists a variable, with what it lists TIED to the program's text (the seventh form; the later family's looks); each row that meets fmt, with fmt's text TOLD by the authors' own Lean function (tested against real Go, not proved from fmt's source: count such statements apart). THE CARD IS WHAT COUNTS. Prove the row's statement (the work); the ties are given (YtokddfbjjghpkaaDoorTie.lean); close each card by the builder's one call (the guide's Derived/Test/ToyasCard.lean, 'card_holds'). Laid BY PROGRAM, IN A SANDBOX (cutbox-door.mjs). By AI agents, Wed Nov 11 2026. No macro, syntax, notation, axiom, sorry.
-/
import Derived.Test.YtokddfbjjghpkaaDoorRows
import GoSem.ClaimSeven
namespace Go.Proofs.YtokddfbjjghpkaaDoor
namespace Rows

/-- THE TIED CARD OF 'masonrylaw6.MarkNone'. -/
def markNoneCard : Claim7 := { stood := { row := markNoneRow, standIns := [], harness := (true, "bb4a2167fca876a4f5e312d0c903ff1f8f5ff7cbe5f88565e41207829b716c80"), looks := false }, kinds := [], alts := [], laidByText := true, laidKinds := [.data, .pinned], laidTests := true, laidLooks := .later }
def MarkNoneCardSaid : Prop := Claim7.holds Tryd.pinned (.plain (OpenSpec.ofChange markNoneSpec)) markNoneCard

/-- THE SECOND FORM's CARD OF 'masonrylaw6.MarkNone'. -/
def markNoneUptoCard : Claim7 := { stood := { row := markNoneUptoRow, standIns := [], harness := (true, "bb4a2167fca876a4f5e312d0c903ff1f8f5ff7cbe5f88565e41207829b716c80"), looks := false }, kinds := [], alts := [], laidByText := true, laidKinds := [.data, .pinned], laidTests := true, laidLooks := .later }
def MarkNoneUptoCardSaid : Prop := Claim7.holds Tryd.pinned (.plain (OpenSpec.upto markNoneSpec)) markNoneUptoCard
end Rows
end Go.Proofs.YtokddfbjjghpkaaDoor
