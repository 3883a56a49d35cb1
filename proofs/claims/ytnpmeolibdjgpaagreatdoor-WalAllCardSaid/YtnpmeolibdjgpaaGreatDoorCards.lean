/-
  DERIVED. GIVEN WITH THE SEED: THE CARDS: each row of YtnpmeolibdjgpaaGreatDoorRows.lean that lists a variable, with what it lists TIED to the program's text (the seventh form; the later family's looks); each row that meets fmt, with fmt's text TOLD by the authors' own Lean function (tested against real Go, not proved from fmt's source: count such statements apart). THE CARD IS WHAT COUNTS. Prove the row's statement (the work); the ties are given (YtnpmeolibdjgpaaGreatDoorTie.lean); close each card by the builder's one call (the guide's Derived/Test/ToyasCard.lean, 'card_holds'). Laid BY PROGRAM, IN A SANDBOX (cutbox-door.mjs). By AI agents, Wed Nov 11 2026. No macro, syntax, notation, axiom, sorry.
-/
import Derived.Test.YtnpmeolibdjgpaaGreatDoorRows
import GoSem.ClaimSeven
namespace Go.Proofs.YtnpmeolibdjgpaaGreatDoor
namespace Rows

/-- THE TIED CARD OF 'masonrylaw8.HeadTells'. -/
def headTellsCard : Claim7 := { stood := { row := headTellsRow, standIns := [], harness := (true, "de2856716db7717d03480323bdbddfcbe9ef3911dd493ee6169bdd1ef216599b"), looks := false }, kinds := [], alts := [], laidByText := true, laidKinds := [.data, .pinned], laidTests := true, laidLooks := .later }
def HeadTellsCardSaid : Prop := Claim7.holds Tryz.pinned (.plain (OpenSpec.ofChange headTellsSpec)) headTellsCard

/-- THE TIED CARD OF 'masonrylaw9.WalPlays'. -/
def walPlaysCard : Claim7 := { stood := { row := walPlaysRow, standIns := [], harness := (true, "de2856716db7717d03480323bdbddfcbe9ef3911dd493ee6169bdd1ef216599b"), looks := false }, kinds := [], alts := [], laidByText := true, laidKinds := [.data, .pinned], laidTests := true, laidLooks := .later }
def WalPlaysCardSaid : Prop := Claim7.holds Tryz.pinned (.plain (OpenSpec.ofChange walPlaysSpec)) walPlaysCard

/-- THE TIED CARD OF 'masonrylaw9.WalNone'. -/
def walNoneCard : Claim7 := { stood := { row := walNoneRow, standIns := [], harness := (true, "de2856716db7717d03480323bdbddfcbe9ef3911dd493ee6169bdd1ef216599b"), looks := false }, kinds := [], alts := [], laidByText := true, laidKinds := [.data, .pinned], laidTests := true, laidLooks := .later }
def WalNoneCardSaid : Prop := Claim7.holds Tryz.pinned (.plain (OpenSpec.ofChange walNoneSpec)) walNoneCard

/-- THE TIED CARD OF 'masonrylaw9.WalAll'. -/
def walAllCard : Claim7 := { stood := { row := walAllRow, standIns := [], harness := (true, "de2856716db7717d03480323bdbddfcbe9ef3911dd493ee6169bdd1ef216599b"), looks := false }, kinds := [], alts := [], laidByText := true, laidKinds := [.data, .pinned], laidTests := true, laidLooks := .later }
def WalAllCardSaid : Prop := Claim7.holds Tryz.pinned (.plain (OpenSpec.ofChange walAllSpec)) walAllCard

/-- THE TIED CARD OF 'masonrylaw9.WalCosts'. -/
def walCostsCard : Claim7 := { stood := { row := walCostsRow, standIns := [], harness := (true, "de2856716db7717d03480323bdbddfcbe9ef3911dd493ee6169bdd1ef216599b"), looks := false }, kinds := [], alts := [], laidByText := true, laidKinds := [.data, .pinned], laidTests := true, laidLooks := .later }
def WalCostsCardSaid : Prop := Claim7.holds Tryz.pinned (.plain (OpenSpec.ofChange walCostsSpec)) walCostsCard

/-- THE SECOND FORM's CARD OF 'masonrylaw8.HeadTells'. -/
def headTellsUptoCard : Claim7 := { stood := { row := headTellsUptoRow, standIns := [], harness := (true, "de2856716db7717d03480323bdbddfcbe9ef3911dd493ee6169bdd1ef216599b"), looks := false }, kinds := [], alts := [], laidByText := true, laidKinds := [.data, .pinned], laidTests := true, laidLooks := .later }
def HeadTellsUptoCardSaid : Prop := Claim7.holds Tryz.pinned (.plain (OpenSpec.upto headTellsSpec)) headTellsUptoCard

/-- THE SECOND FORM's CARD OF 'masonrylaw9.WalPlays'. -/
def walPlaysUptoCard : Claim7 := { stood := { row := walPlaysUptoRow, standIns := [], harness := (true, "de2856716db7717d03480323bdbddfcbe9ef3911dd493ee6169bdd1ef216599b"), looks := false }, kinds := [], alts := [], laidByText := true, laidKinds := [.data, .pinned], laidTests := true, laidLooks := .later }
def WalPlaysUptoCardSaid : Prop := Claim7.holds Tryz.pinned (.plain (OpenSpec.upto walPlaysSpec)) walPlaysUptoCard

/-- THE SECOND FORM's CARD OF 'masonrylaw9.WalNone'. -/
def walNoneUptoCard : Claim7 := { stood := { row := walNoneUptoRow, standIns := [], harness := (true, "de2856716db7717d03480323bdbddfcbe9ef3911dd493ee6169bdd1ef216599b"), looks := false }, kinds := [], alts := [], laidByText := true, laidKinds := [.data, .pinned], laidTests := true, laidLooks := .later }
def WalNoneUptoCardSaid : Prop := Claim7.holds Tryz.pinned (.plain (OpenSpec.upto walNoneSpec)) walNoneUptoCard

/-- THE SECOND FORM's CARD OF 'masonrylaw9.WalAll'. -/
def walAllUptoCard : Claim7 := { stood := { row := walAllUptoRow, standIns := [], harness := (true, "de2856716db7717d03480323bdbddfcbe9ef3911dd493ee6169bdd1ef216599b"), looks := false }, kinds := [], alts := [], laidByText := true, laidKinds := [.data, .pinned], laidTests := true, laidLooks := .later }
def WalAllUptoCardSaid : Prop := Claim7.holds Tryz.pinned (.plain (OpenSpec.upto walAllSpec)) walAllUptoCard

/-- THE SECOND FORM's CARD OF 'masonrylaw9.WalCosts'. -/
def walCostsUptoCard : Claim7 := { stood := { row := walCostsUptoRow, standIns := [], harness := (true, "de2856716db7717d03480323bdbddfcbe9ef3911dd493ee6169bdd1ef216599b"), looks := false }, kinds := [], alts := [], laidByText := true, laidKinds := [.data, .pinned], laidTests := true, laidLooks := .later }
def WalCostsUptoCardSaid : Prop := Claim7.holds Tryz.pinned (.plain (OpenSpec.upto walCostsSpec)) walCostsUptoCard
end Rows
end Go.Proofs.YtnpmeolibdjgpaaGreatDoor
