/-
  No cell of these rows narrows 'for every input' (looked for: loops, veiled, ifaces, maps, wideKeys, modest, calm, conditions, laid).
  DERIVED. THE GIVEN ROWS OF THIS SEAT. 5 by the template 'for every input the law returns true; each argument reads behind the call as it read before'; 0 by the template 'total and deterministic' (their statements: YtnmdpbnddbccmaaTotals.lean).
  GIVEN WITH THE SEED: the statements are not yours to turn. If you find one false, say at which input.
  Laid BY PROGRAM, IN A SANDBOX (cutbox-rows.mjs): the forced cells as the released guide's own fill.sh prints them over the translation b3c98cec92a7e08f… (all of the seat's roots in one cut). By AI agents, Wed Nov 11 2026. No macro, syntax, notation, axiom, sorry.
-/
import Derived.Test.YtnmdpbnddbccmaaChecked
import GoSem.Claim
import GoSem.ClaimJoined
import GoSem.ClaimMapViews
import Derived.JoinedTies
import Derived.KernelRfl
namespace Go.Proofs.Ytnmdpbnddbccmaa
/- THE CELL 'sum', in the pinned program and in every row, IS THE sha256 OF THE DUMP (.gsa) THAT YtnmdpbnddbccmaaProg.lean LOADS. Nothing in Lean hashes anything: it is a label: what it is worth is what the hold of that sum in a sandbox is worth. -/
noncomputable def Try.pinned : Pinned := { name := "ytnmdpbnddbccmaa", sum := "b3c98cec92a7e08f9e95b4bacf09cefa176ac38c6a8e5319764cdc727abe76e8", checked := Try.checked }
namespace Rows
def none {H : Type} : Left H := { results := [], args := [] }

/-- 'masonrylaw14.CdcTells': WHATEVER THE INPUT: true; the input reads as it did. -/
def cdcTellsSpec : ChangeSpec := { name := "cdcTells", fn := fun _ => fun
  | [d1, d2, d3] => { results := [.lit (.bool true)], args := [d1, d2, d3] }
  | _ => none }
def cdcTellsRow : OpenClaim := { program := "ytnmdpbnddbccmaa", sum := "b3c98cec92a7e08f9e95b4bacf09cefa176ac38c6a8e5319764cdc727abe76e8", func := "masonry/masonrylaw14.CdcTells", spec := "cdcTells", inPlace := ["internal/abi.NoEscape", "internal/bytealg.MakeNoZero"], apart := false }
def CdcTellsSaid : Prop := cdcTellsRow.holds Try.pinned (OpenSpec.ofChange cdcTellsSpec)

/-- ITS FALSE NEIGHBOUR: 'it returns false'. Refute it at one input. -/
def cdcTellsWrong : ChangeSpec := { name := "cdcTells", fn := fun _ => fun
  | [d1, d2, d3] => { results := [.lit (.bool false)], args := [d1, d2, d3] }
  | _ => none }
def CdcTellsWrongFalsely : Prop := cdcTellsRow.holds Try.pinned (OpenSpec.ofChange cdcTellsWrong)

/-- 'masonrylaw14.CdcBounds': WHATEVER THE INPUT: true; the input reads as it did. -/
def cdcBoundsSpec : ChangeSpec := { name := "cdcBounds", fn := fun _ => fun
  | [d1, d2, d3] => { results := [.lit (.bool true)], args := [d1, d2, d3] }
  | _ => none }
def cdcBoundsRow : OpenClaim := { program := "ytnmdpbnddbccmaa", sum := "b3c98cec92a7e08f9e95b4bacf09cefa176ac38c6a8e5319764cdc727abe76e8", func := "masonry/masonrylaw14.CdcBounds", spec := "cdcBounds", inPlace := ["internal/abi.NoEscape", "internal/bytealg.MakeNoZero"], apart := false }
def CdcBoundsSaid : Prop := cdcBoundsRow.holds Try.pinned (OpenSpec.ofChange cdcBoundsSpec)

/-- ITS FALSE NEIGHBOUR: 'it returns false'. Refute it at one input. -/
def cdcBoundsWrong : ChangeSpec := { name := "cdcBounds", fn := fun _ => fun
  | [d1, d2, d3] => { results := [.lit (.bool false)], args := [d1, d2, d3] }
  | _ => none }
def CdcBoundsWrongFalsely : Prop := cdcBoundsRow.holds Try.pinned (OpenSpec.ofChange cdcBoundsWrong)

/-- 'masonrylaw14.CdcMeets': WHATEVER THE INPUT: true; the input reads as it did. -/
def cdcMeetsSpec : ChangeSpec := { name := "cdcMeets", fn := fun _ => fun
  | [d1, d2, d3] => { results := [.lit (.bool true)], args := [d1, d2, d3] }
  | _ => none }
def cdcMeetsRow : OpenClaim := { program := "ytnmdpbnddbccmaa", sum := "b3c98cec92a7e08f9e95b4bacf09cefa176ac38c6a8e5319764cdc727abe76e8", func := "masonry/masonrylaw14.CdcMeets", spec := "cdcMeets", inPlace := ["internal/abi.NoEscape", "internal/bytealg.MakeNoZero"], apart := false }
def CdcMeetsSaid : Prop := cdcMeetsRow.holds Try.pinned (OpenSpec.ofChange cdcMeetsSpec)

/-- ITS FALSE NEIGHBOUR: 'it returns false'. Refute it at one input. -/
def cdcMeetsWrong : ChangeSpec := { name := "cdcMeets", fn := fun _ => fun
  | [d1, d2, d3] => { results := [.lit (.bool false)], args := [d1, d2, d3] }
  | _ => none }
def CdcMeetsWrongFalsely : Prop := cdcMeetsRow.holds Try.pinned (OpenSpec.ofChange cdcMeetsWrong)

/-- 'masonrylaw14.CdcAlone': WHATEVER THE INPUT: true; the input reads as it did. -/
def cdcAloneSpec : ChangeSpec := { name := "cdcAlone", fn := fun _ => fun
  | [d1, d2, d3] => { results := [.lit (.bool true)], args := [d1, d2, d3] }
  | _ => none }
def cdcAloneRow : OpenClaim := { program := "ytnmdpbnddbccmaa", sum := "b3c98cec92a7e08f9e95b4bacf09cefa176ac38c6a8e5319764cdc727abe76e8", func := "masonry/masonrylaw14.CdcAlone", spec := "cdcAlone", inPlace := ["internal/abi.NoEscape", "internal/bytealg.MakeNoZero"], apart := false }
def CdcAloneSaid : Prop := cdcAloneRow.holds Try.pinned (OpenSpec.ofChange cdcAloneSpec)

/-- ITS FALSE NEIGHBOUR: 'it returns false'. Refute it at one input. -/
def cdcAloneWrong : ChangeSpec := { name := "cdcAlone", fn := fun _ => fun
  | [d1, d2, d3] => { results := [.lit (.bool false)], args := [d1, d2, d3] }
  | _ => none }
def CdcAloneWrongFalsely : Prop := cdcAloneRow.holds Try.pinned (OpenSpec.ofChange cdcAloneWrong)

/-- 'masonrylaw14.CdcSame': WHATEVER THE INPUT: true; the input reads as it did. -/
def cdcSameSpec : ChangeSpec := { name := "cdcSame", fn := fun _ => fun
  | [d] => { results := [.lit (.bool true)], args := [d] }
  | _ => none }
def cdcSameRow : OpenClaim := { program := "ytnmdpbnddbccmaa", sum := "b3c98cec92a7e08f9e95b4bacf09cefa176ac38c6a8e5319764cdc727abe76e8", func := "masonry/masonrylaw14.CdcSame", spec := "cdcSame", inPlace := ["internal/abi.NoEscape", "internal/bytealg.MakeNoZero"], apart := false }
def CdcSameSaid : Prop := cdcSameRow.holds Try.pinned (OpenSpec.ofChange cdcSameSpec)

/-- ITS FALSE NEIGHBOUR: 'it returns false'. Refute it at one input. -/
def cdcSameWrong : ChangeSpec := { name := "cdcSame", fn := fun _ => fun
  | [d] => { results := [.lit (.bool false)], args := [d] }
  | _ => none }
def CdcSameWrongFalsely : Prop := cdcSameRow.holds Try.pinned (OpenSpec.ofChange cdcSameWrong)

/- THE SECOND FORM. 'bulk': how many values and letters a reading holds, each counted each time it is reached (what is shared counts as often as it is met; a slice's spare places count too). A statement '..UptoSaid' is the law's where the arguments, and the package variables that the reading takes, are together of bulk at most 1048576: NARROWER than '..Said'. Prove '..Said' where nothing that the law and all that it calls make is longer than what came in: it says more and counts as full. Else prove '..UptoSaid'. A law counts once. -/
mutual
def uptoBulk {H : Type} : DataW H → Nat
  | .lit (.string bytes) => bytes.length + 1
  | .lit _ => 1
  | .nil => 1
  | .ptr d => uptoBulk d + 1
  | .slice elems spare => uptoBulkAll elems + uptoBulkAll spare + 1
  | .agg parts => uptoBulkAll parts + 1
  | .iface _ d => uptoBulk d + 1
  | .map entries => uptoBulkEntries entries + 1
  | .held _ => 1
def uptoBulkAll {H : Type} : List (DataW H) → Nat
  | [] => 0
  | d :: r => uptoBulk d + uptoBulkAll r
def uptoBulkEntries {H : Type} : List (Lit × DataW H) → Nat
  | [] => 0
  | x :: r => uptoBulkEntry x + uptoBulkEntries r
def uptoBulkEntry {H : Type} : Lit × DataW H → Nat
  | (.string bytes, d) => bytes.length + uptoBulk d + 1
  | (_, d) => uptoBulk d + 1
 end
def uptoSmall : (H : Type) → List (DataW H) → Bool := fun _ ds => decide (uptoBulkAll ds ≤ 1048576)
def OpenSpec.upto (s : _root_.Go.ChangeSpec) : _root_.Go.OpenSpec := { _root_.Go.OpenSpec.ofChange s with cond := some uptoSmall }

/-- 'masonrylaw14.CdcTells', WHERE WHAT IT READS IS OF BULK AT MOST 1048576: true; the input reads as it did. -/
def cdcTellsUptoRow : OpenClaim := { program := "ytnmdpbnddbccmaa", sum := "b3c98cec92a7e08f9e95b4bacf09cefa176ac38c6a8e5319764cdc727abe76e8", func := "masonry/masonrylaw14.CdcTells", spec := "cdcTells", inPlace := ["internal/abi.NoEscape", "internal/bytealg.MakeNoZero"], apart := false, narrowed := true }
def CdcTellsUptoSaid : Prop := cdcTellsUptoRow.holds Try.pinned (OpenSpec.upto cdcTellsSpec)

/-- 'masonrylaw14.CdcBounds', WHERE WHAT IT READS IS OF BULK AT MOST 1048576: true; the input reads as it did. -/
def cdcBoundsUptoRow : OpenClaim := { program := "ytnmdpbnddbccmaa", sum := "b3c98cec92a7e08f9e95b4bacf09cefa176ac38c6a8e5319764cdc727abe76e8", func := "masonry/masonrylaw14.CdcBounds", spec := "cdcBounds", inPlace := ["internal/abi.NoEscape", "internal/bytealg.MakeNoZero"], apart := false, narrowed := true }
def CdcBoundsUptoSaid : Prop := cdcBoundsUptoRow.holds Try.pinned (OpenSpec.upto cdcBoundsSpec)

/-- 'masonrylaw14.CdcMeets', WHERE WHAT IT READS IS OF BULK AT MOST 1048576: true; the input reads as it did. -/
def cdcMeetsUptoRow : OpenClaim := { program := "ytnmdpbnddbccmaa", sum := "b3c98cec92a7e08f9e95b4bacf09cefa176ac38c6a8e5319764cdc727abe76e8", func := "masonry/masonrylaw14.CdcMeets", spec := "cdcMeets", inPlace := ["internal/abi.NoEscape", "internal/bytealg.MakeNoZero"], apart := false, narrowed := true }
def CdcMeetsUptoSaid : Prop := cdcMeetsUptoRow.holds Try.pinned (OpenSpec.upto cdcMeetsSpec)

/-- 'masonrylaw14.CdcAlone', WHERE WHAT IT READS IS OF BULK AT MOST 1048576: true; the input reads as it did. -/
def cdcAloneUptoRow : OpenClaim := { program := "ytnmdpbnddbccmaa", sum := "b3c98cec92a7e08f9e95b4bacf09cefa176ac38c6a8e5319764cdc727abe76e8", func := "masonry/masonrylaw14.CdcAlone", spec := "cdcAlone", inPlace := ["internal/abi.NoEscape", "internal/bytealg.MakeNoZero"], apart := false, narrowed := true }
def CdcAloneUptoSaid : Prop := cdcAloneUptoRow.holds Try.pinned (OpenSpec.upto cdcAloneSpec)

/-- 'masonrylaw14.CdcSame', WHERE WHAT IT READS IS OF BULK AT MOST 1048576: true; the input reads as it did. -/
def cdcSameUptoRow : OpenClaim := { program := "ytnmdpbnddbccmaa", sum := "b3c98cec92a7e08f9e95b4bacf09cefa176ac38c6a8e5319764cdc727abe76e8", func := "masonry/masonrylaw14.CdcSame", spec := "cdcSame", inPlace := ["internal/abi.NoEscape", "internal/bytealg.MakeNoZero"], apart := false, narrowed := true }
def CdcSameUptoSaid : Prop := cdcSameUptoRow.holds Try.pinned (OpenSpec.upto cdcSameSpec)

end Rows
end Go.Proofs.Ytnmdpbnddbccmaa
