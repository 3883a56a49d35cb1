/-
  No cell of these rows narrows 'for every input' (looked for: loops, veiled, ifaces, maps, wideKeys, modest, calm, conditions, laid).
  DERIVED. THE GIVEN ROWS OF THIS SEAT. 4 by the template 'for every input the law returns true; each argument reads behind the call as it read before'; 0 by the template 'total and deterministic' (their statements: YtgefaknpeflggaaTotals.lean).
  GIVEN WITH THE SEED: the statements are not yours to turn. If you find one false, say at which input.
  Laid BY PROGRAM, IN A SANDBOX (cutbox-rows.mjs): the forced cells as the released guide's own fill.sh prints them over the translation a1e41ce9966f9121… (all of the seat's roots in one cut). By AI agents, Wed Nov 11 2026. No macro, syntax, notation, axiom, sorry.
-/
import Derived.Test.YtgefaknpeflggaaChecked
import GoSem.Claim
import GoSem.ClaimJoined
import GoSem.ClaimMapViews
import Derived.JoinedTies
import Derived.KernelRfl
namespace Go.Proofs.Ytgefaknpeflggaa
/- THE CELL 'sum', in the pinned program and in every row, IS THE sha256 OF THE DUMP (.gsa) THAT YtgefaknpeflggaaProg.lean LOADS. Nothing in Lean hashes anything: it is a label: what it is worth is what the hold of that sum in a sandbox is worth. -/
noncomputable def Try.pinned : Pinned := { name := "ytgefaknpeflggaa", sum := "a1e41ce9966f9121795e18f2bfc7329fcd71176ed1d17ed2fccfacdfe8778de0", checked := Try.checked }
namespace Rows
def none {H : Type} : Left H := { results := [], args := [] }

/-- 'masonrylaw4.TwoTells': WHATEVER THE INPUT: true; the input reads as it did. -/
def twoTellsSpec : ChangeSpec := { name := "twoTells", fn := fun _ => fun
  | [d1, d2] => { results := [.lit (.bool true)], args := [d1, d2] }
  | _ => none }
def twoTellsRow : OpenClaim := { program := "ytgefaknpeflggaa", sum := "a1e41ce9966f9121795e18f2bfc7329fcd71176ed1d17ed2fccfacdfe8778de0", func := "masonry/masonrylaw4.TwoTells", spec := "twoTells", inPlace := ["internal/abi.NoEscape", "internal/bytealg.MakeNoZero"], apart := false }
def TwoTellsSaid : Prop := twoTellsRow.holds Try.pinned (OpenSpec.ofChange twoTellsSpec)

/-- ITS FALSE NEIGHBOUR: 'it returns false'. Refute it at one input. -/
def twoTellsWrong : ChangeSpec := { name := "twoTells", fn := fun _ => fun
  | [d1, d2] => { results := [.lit (.bool false)], args := [d1, d2] }
  | _ => none }
def TwoTellsWrongFalsely : Prop := twoTellsRow.holds Try.pinned (OpenSpec.ofChange twoTellsWrong)

/-- 'masonrylaw4.TwoKnown': WHATEVER THE INPUT: true; the input reads as it did. -/
def twoKnownSpec : ChangeSpec := { name := "twoKnown", fn := fun _ => fun
  | [d] => { results := [.lit (.bool true)], args := [d] }
  | _ => none }
def twoKnownRow : OpenClaim := { program := "ytgefaknpeflggaa", sum := "a1e41ce9966f9121795e18f2bfc7329fcd71176ed1d17ed2fccfacdfe8778de0", func := "masonry/masonrylaw4.TwoKnown", spec := "twoKnown", inPlace := ["internal/abi.NoEscape", "internal/bytealg.MakeNoZero"], apart := false }
def TwoKnownSaid : Prop := twoKnownRow.holds Try.pinned (OpenSpec.ofChange twoKnownSpec)

/-- ITS FALSE NEIGHBOUR: 'it returns false'. Refute it at one input. -/
def twoKnownWrong : ChangeSpec := { name := "twoKnown", fn := fun _ => fun
  | [d] => { results := [.lit (.bool false)], args := [d] }
  | _ => none }
def TwoKnownWrongFalsely : Prop := twoKnownRow.holds Try.pinned (OpenSpec.ofChange twoKnownWrong)

/-- 'masonrylaw4.TwoParts': WHATEVER THE INPUT: true; the input reads as it did. -/
def twoPartsSpec : ChangeSpec := { name := "twoParts", fn := fun _ => fun
  | [d1, d2] => { results := [.lit (.bool true)], args := [d1, d2] }
  | _ => none }
def twoPartsRow : OpenClaim := { program := "ytgefaknpeflggaa", sum := "a1e41ce9966f9121795e18f2bfc7329fcd71176ed1d17ed2fccfacdfe8778de0", func := "masonry/masonrylaw4.TwoParts", spec := "twoParts", inPlace := ["internal/abi.NoEscape", "internal/bytealg.MakeNoZero"], apart := false }
def TwoPartsSaid : Prop := twoPartsRow.holds Try.pinned (OpenSpec.ofChange twoPartsSpec)

/-- ITS FALSE NEIGHBOUR: 'it returns false'. Refute it at one input. -/
def twoPartsWrong : ChangeSpec := { name := "twoParts", fn := fun _ => fun
  | [d1, d2] => { results := [.lit (.bool false)], args := [d1, d2] }
  | _ => none }
def TwoPartsWrongFalsely : Prop := twoPartsRow.holds Try.pinned (OpenSpec.ofChange twoPartsWrong)

/-- 'masonrylaw4.TwoKeys': WHATEVER THE INPUT: true; the input reads as it did. -/
def twoKeysSpec : ChangeSpec := { name := "twoKeys", fn := fun _ => fun
  | [d] => { results := [.lit (.bool true)], args := [d] }
  | _ => none }
def twoKeysRow : OpenClaim := { program := "ytgefaknpeflggaa", sum := "a1e41ce9966f9121795e18f2bfc7329fcd71176ed1d17ed2fccfacdfe8778de0", func := "masonry/masonrylaw4.TwoKeys", spec := "twoKeys", inPlace := ["internal/abi.NoEscape", "internal/bytealg.MakeNoZero"], apart := false }
def TwoKeysSaid : Prop := twoKeysRow.holds Try.pinned (OpenSpec.ofChange twoKeysSpec)

/-- ITS FALSE NEIGHBOUR: 'it returns false'. Refute it at one input. -/
def twoKeysWrong : ChangeSpec := { name := "twoKeys", fn := fun _ => fun
  | [d] => { results := [.lit (.bool false)], args := [d] }
  | _ => none }
def TwoKeysWrongFalsely : Prop := twoKeysRow.holds Try.pinned (OpenSpec.ofChange twoKeysWrong)

/- THE SECOND FORM. 'bulk': how many values and letters a reading holds, each counted each time it is reached (what is shared counts as often as it is met; a slice's spare places count too). A statement '..UptoSaid' is the law's where the arguments, and the package variables that the reading takes, are together of bulk at most 1048576: NARROWER than '..Said'. Prove '..Said' where nothing that the law and all that it calls make is longer than what came in: it says more and counts as full. Else prove '..UptoSaid'. A law counts once. -/
mutual
def uptoBulk {H : Type} : DataW H → Nat
  | .lit (.string bytes) => bytes.length + 1
  | .lit _ => 1
  | .nil => 1
  | .ptr d => uptoBulk d + 1
  | .slice elems spare => uptoBulkAll elems + uptoBulkAll spare + 1
  | .agg parts => uptoBulkAll parts + 1
  | .iface _ d => uptoBulk d + 1
  | .map entries => uptoBulkEntries entries + 1
  | .held _ => 1
def uptoBulkAll {H : Type} : List (DataW H) → Nat
  | [] => 0
  | d :: r => uptoBulk d + uptoBulkAll r
def uptoBulkEntries {H : Type} : List (Lit × DataW H) → Nat
  | [] => 0
  | x :: r => uptoBulkEntry x + uptoBulkEntries r
def uptoBulkEntry {H : Type} : Lit × DataW H → Nat
  | (.string bytes, d) => bytes.length + uptoBulk d + 1
  | (_, d) => uptoBulk d + 1
 end
def uptoSmall : (H : Type) → List (DataW H) → Bool := fun _ ds => decide (uptoBulkAll ds ≤ 1048576)
def OpenSpec.upto (s : _root_.Go.ChangeSpec) : _root_.Go.OpenSpec := { _root_.Go.OpenSpec.ofChange s with cond := some uptoSmall }

/-- 'masonrylaw4.TwoTells', WHERE WHAT IT READS IS OF BULK AT MOST 1048576: true; the input reads as it did. -/
def twoTellsUptoRow : OpenClaim := { program := "ytgefaknpeflggaa", sum := "a1e41ce9966f9121795e18f2bfc7329fcd71176ed1d17ed2fccfacdfe8778de0", func := "masonry/masonrylaw4.TwoTells", spec := "twoTells", inPlace := ["internal/abi.NoEscape", "internal/bytealg.MakeNoZero"], apart := false, narrowed := true }
def TwoTellsUptoSaid : Prop := twoTellsUptoRow.holds Try.pinned (OpenSpec.upto twoTellsSpec)

/-- 'masonrylaw4.TwoKnown', WHERE WHAT IT READS IS OF BULK AT MOST 1048576: true; the input reads as it did. -/
def twoKnownUptoRow : OpenClaim := { program := "ytgefaknpeflggaa", sum := "a1e41ce9966f9121795e18f2bfc7329fcd71176ed1d17ed2fccfacdfe8778de0", func := "masonry/masonrylaw4.TwoKnown", spec := "twoKnown", inPlace := ["internal/abi.NoEscape", "internal/bytealg.MakeNoZero"], apart := false, narrowed := true }
def TwoKnownUptoSaid : Prop := twoKnownUptoRow.holds Try.pinned (OpenSpec.upto twoKnownSpec)

/-- 'masonrylaw4.TwoParts', WHERE WHAT IT READS IS OF BULK AT MOST 1048576: true; the input reads as it did. -/
def twoPartsUptoRow : OpenClaim := { program := "ytgefaknpeflggaa", sum := "a1e41ce9966f9121795e18f2bfc7329fcd71176ed1d17ed2fccfacdfe8778de0", func := "masonry/masonrylaw4.TwoParts", spec := "twoParts", inPlace := ["internal/abi.NoEscape", "internal/bytealg.MakeNoZero"], apart := false, narrowed := true }
def TwoPartsUptoSaid : Prop := twoPartsUptoRow.holds Try.pinned (OpenSpec.upto twoPartsSpec)

/-- 'masonrylaw4.TwoKeys', WHERE WHAT IT READS IS OF BULK AT MOST 1048576: true; the input reads as it did. -/
def twoKeysUptoRow : OpenClaim := { program := "ytgefaknpeflggaa", sum := "a1e41ce9966f9121795e18f2bfc7329fcd71176ed1d17ed2fccfacdfe8778de0", func := "masonry/masonrylaw4.TwoKeys", spec := "twoKeys", inPlace := ["internal/abi.NoEscape", "internal/bytealg.MakeNoZero"], apart := false, narrowed := true }
def TwoKeysUptoSaid : Prop := twoKeysUptoRow.holds Try.pinned (OpenSpec.upto twoKeysSpec)

end Rows
end Go.Proofs.Ytgefaknpeflggaa
