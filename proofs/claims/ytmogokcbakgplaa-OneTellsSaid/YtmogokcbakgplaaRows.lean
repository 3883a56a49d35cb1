/-
  No cell of these rows narrows 'for every input' (looked for: loops, veiled, ifaces, maps, wideKeys, modest, calm, conditions, laid).
  DERIVED. THE GIVEN ROWS OF THIS SEAT. 4 by the template 'for every input the law returns true; each argument reads behind the call as it read before'; 0 by the template 'total and deterministic' (their statements: YtmogokcbakgplaaTotals.lean).
  GIVEN WITH THE SEED: the statements are not yours to turn. If you find one false, say at which input.
  Laid BY PROGRAM, IN A SANDBOX (cutbox-rows.mjs): the forced cells as the released guide's own fill.sh prints them over the translation fef706a8ffe8db7d… (all of the seat's roots in one cut). By AI agents, Wed Nov 11 2026. No macro, syntax, notation, axiom, sorry.
-/
import Derived.Test.YtmogokcbakgplaaChecked
import GoSem.Claim
import GoSem.ClaimJoined
import GoSem.ClaimMapViews
import Derived.JoinedTies
import Derived.KernelRfl
namespace Go.Proofs.Ytmogokcbakgplaa
/- THE CELL 'sum', in the pinned program and in every row, IS THE sha256 OF THE DUMP (.gsa) THAT YtmogokcbakgplaaProg.lean LOADS. Nothing in Lean hashes anything: it is a label: what it is worth is what the hold of that sum in a sandbox is worth. -/
noncomputable def Try.pinned : Pinned := { name := "ytmogokcbakgplaa", sum := "fef706a8ffe8db7df1c74e358e25c8463ca97b592a1b131941538bf40cca9c60", checked := Try.checked }
namespace Rows
def none {H : Type} : Left H := { results := [], args := [] }

/-- 'masonrylaw3.OneTells': WHATEVER THE INPUT: true; the input reads as it did. -/
def oneTellsSpec : ChangeSpec := { name := "oneTells", fn := fun _ => fun
  | [d1, d2] => { results := [.lit (.bool true)], args := [d1, d2] }
  | _ => none }
def oneTellsRow : OpenClaim := { program := "ytmogokcbakgplaa", sum := "fef706a8ffe8db7df1c74e358e25c8463ca97b592a1b131941538bf40cca9c60", func := "masonry/masonrylaw3.OneTells", spec := "oneTells", apart := false }
def OneTellsSaid : Prop := oneTellsRow.holds Try.pinned (OpenSpec.ofChange oneTellsSpec)

/-- ITS FALSE NEIGHBOUR: 'it returns false'. Refute it at one input. -/
def oneTellsWrong : ChangeSpec := { name := "oneTells", fn := fun _ => fun
  | [d1, d2] => { results := [.lit (.bool false)], args := [d1, d2] }
  | _ => none }
def OneTellsWrongFalsely : Prop := oneTellsRow.holds Try.pinned (OpenSpec.ofChange oneTellsWrong)

/-- 'masonrylaw3.OnePads': WHATEVER THE INPUT: true; the input reads as it did. -/
def onePadsSpec : ChangeSpec := { name := "onePads", fn := fun _ => fun
  | [d] => { results := [.lit (.bool true)], args := [d] }
  | _ => none }
def onePadsRow : OpenClaim := { program := "ytmogokcbakgplaa", sum := "fef706a8ffe8db7df1c74e358e25c8463ca97b592a1b131941538bf40cca9c60", func := "masonry/masonrylaw3.OnePads", spec := "onePads", apart := false }
def OnePadsSaid : Prop := onePadsRow.holds Try.pinned (OpenSpec.ofChange onePadsSpec)

/-- ITS FALSE NEIGHBOUR: 'it returns false'. Refute it at one input. -/
def onePadsWrong : ChangeSpec := { name := "onePads", fn := fun _ => fun
  | [d] => { results := [.lit (.bool false)], args := [d] }
  | _ => none }
def OnePadsWrongFalsely : Prop := onePadsRow.holds Try.pinned (OpenSpec.ofChange onePadsWrong)

/-- 'masonrylaw3.OneKnown': WHATEVER THE INPUT: true; the input reads as it did. -/
def oneKnownSpec : ChangeSpec := { name := "oneKnown", fn := fun _ => fun
  | [d] => { results := [.lit (.bool true)], args := [d] }
  | _ => none }
def oneKnownRow : OpenClaim := { program := "ytmogokcbakgplaa", sum := "fef706a8ffe8db7df1c74e358e25c8463ca97b592a1b131941538bf40cca9c60", func := "masonry/masonrylaw3.OneKnown", spec := "oneKnown", apart := false }
def OneKnownSaid : Prop := oneKnownRow.holds Try.pinned (OpenSpec.ofChange oneKnownSpec)

/-- ITS FALSE NEIGHBOUR: 'it returns false'. Refute it at one input. -/
def oneKnownWrong : ChangeSpec := { name := "oneKnown", fn := fun _ => fun
  | [d] => { results := [.lit (.bool false)], args := [d] }
  | _ => none }
def OneKnownWrongFalsely : Prop := oneKnownRow.holds Try.pinned (OpenSpec.ofChange oneKnownWrong)

/-- 'masonrylaw3.OneParts': WHATEVER THE INPUT: true; the input reads as it did. -/
def onePartsSpec : ChangeSpec := { name := "oneParts", fn := fun _ => fun
  | [d1, d2] => { results := [.lit (.bool true)], args := [d1, d2] }
  | _ => none }
def onePartsRow : OpenClaim := { program := "ytmogokcbakgplaa", sum := "fef706a8ffe8db7df1c74e358e25c8463ca97b592a1b131941538bf40cca9c60", func := "masonry/masonrylaw3.OneParts", spec := "oneParts", apart := false }
def OnePartsSaid : Prop := onePartsRow.holds Try.pinned (OpenSpec.ofChange onePartsSpec)

/-- ITS FALSE NEIGHBOUR: 'it returns false'. Refute it at one input. -/
def onePartsWrong : ChangeSpec := { name := "oneParts", fn := fun _ => fun
  | [d1, d2] => { results := [.lit (.bool false)], args := [d1, d2] }
  | _ => none }
def OnePartsWrongFalsely : Prop := onePartsRow.holds Try.pinned (OpenSpec.ofChange onePartsWrong)

/- THE SECOND FORM. 'bulk': how many values and letters a reading holds, each counted each time it is reached (what is shared counts as often as it is met; a slice's spare places count too). A statement '..UptoSaid' is the law's where the arguments, and the package variables that the reading takes, are together of bulk at most 1048576: NARROWER than '..Said'. Prove '..Said' where nothing that the law and all that it calls make is longer than what came in: it says more and counts as full. Else prove '..UptoSaid'. A law counts once. -/
mutual
def uptoBulk {H : Type} : DataW H → Nat
  | .lit (.string bytes) => bytes.length + 1
  | .lit _ => 1
  | .nil => 1
  | .ptr d => uptoBulk d + 1
  | .slice elems spare => uptoBulkAll elems + uptoBulkAll spare + 1
  | .agg parts => uptoBulkAll parts + 1
  | .iface _ d => uptoBulk d + 1
  | .map entries => uptoBulkEntries entries + 1
  | .held _ => 1
def uptoBulkAll {H : Type} : List (DataW H) → Nat
  | [] => 0
  | d :: r => uptoBulk d + uptoBulkAll r
def uptoBulkEntries {H : Type} : List (Lit × DataW H) → Nat
  | [] => 0
  | x :: r => uptoBulkEntry x + uptoBulkEntries r
def uptoBulkEntry {H : Type} : Lit × DataW H → Nat
  | (.string bytes, d) => bytes.length + uptoBulk d + 1
  | (_, d) => uptoBulk d + 1
 end
def uptoSmall : (H : Type) → List (DataW H) → Bool := fun _ ds => decide (uptoBulkAll ds ≤ 1048576)
def OpenSpec.upto (s : _root_.Go.ChangeSpec) : _root_.Go.OpenSpec := { _root_.Go.OpenSpec.ofChange s with cond := some uptoSmall }

/-- 'masonrylaw3.OneTells', WHERE WHAT IT READS IS OF BULK AT MOST 1048576: true; the input reads as it did. -/
def oneTellsUptoRow : OpenClaim := { program := "ytmogokcbakgplaa", sum := "fef706a8ffe8db7df1c74e358e25c8463ca97b592a1b131941538bf40cca9c60", func := "masonry/masonrylaw3.OneTells", spec := "oneTells", apart := false, narrowed := true }
def OneTellsUptoSaid : Prop := oneTellsUptoRow.holds Try.pinned (OpenSpec.upto oneTellsSpec)

/-- 'masonrylaw3.OnePads', WHERE WHAT IT READS IS OF BULK AT MOST 1048576: true; the input reads as it did. -/
def onePadsUptoRow : OpenClaim := { program := "ytmogokcbakgplaa", sum := "fef706a8ffe8db7df1c74e358e25c8463ca97b592a1b131941538bf40cca9c60", func := "masonry/masonrylaw3.OnePads", spec := "onePads", apart := false, narrowed := true }
def OnePadsUptoSaid : Prop := onePadsUptoRow.holds Try.pinned (OpenSpec.upto onePadsSpec)

/-- 'masonrylaw3.OneKnown', WHERE WHAT IT READS IS OF BULK AT MOST 1048576: true; the input reads as it did. -/
def oneKnownUptoRow : OpenClaim := { program := "ytmogokcbakgplaa", sum := "fef706a8ffe8db7df1c74e358e25c8463ca97b592a1b131941538bf40cca9c60", func := "masonry/masonrylaw3.OneKnown", spec := "oneKnown", apart := false, narrowed := true }
def OneKnownUptoSaid : Prop := oneKnownUptoRow.holds Try.pinned (OpenSpec.upto oneKnownSpec)

/-- 'masonrylaw3.OneParts', WHERE WHAT IT READS IS OF BULK AT MOST 1048576: true; the input reads as it did. -/
def onePartsUptoRow : OpenClaim := { program := "ytmogokcbakgplaa", sum := "fef706a8ffe8db7df1c74e358e25c8463ca97b592a1b131941538bf40cca9c60", func := "masonry/masonrylaw3.OneParts", spec := "oneParts", apart := false, narrowed := true }
def OnePartsUptoSaid : Prop := onePartsUptoRow.holds Try.pinned (OpenSpec.upto onePartsSpec)

end Rows
end Go.Proofs.Ytmogokcbakgplaa
