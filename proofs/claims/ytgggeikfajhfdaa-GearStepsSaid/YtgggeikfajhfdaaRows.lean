/-
  No cell of these rows narrows 'for every input' (looked for: loops, veiled, ifaces, maps, wideKeys, modest, calm, conditions, laid).
  DERIVED. THE GIVEN ROWS OF THIS SEAT. 3 by the template 'for every input the law returns true; each argument reads behind the call as it read before'; 0 by the template 'total and deterministic' (their statements: YtgggeikfajhfdaaTotals.lean).
  GIVEN WITH THE SEED: the statements are not yours to turn. If you find one false, say at which input.
  Laid BY PROGRAM, IN A SANDBOX (cutbox-rows.mjs): the forced cells as the released guide's own fill.sh prints them over the translation 17451fdb6e2cec79… (all of the seat's roots in one cut). By AI agents, Wed Nov 11 2026. No macro, syntax, notation, axiom, sorry.
-/
import Derived.Test.YtgggeikfajhfdaaChecked
import GoSem.Claim
import GoSem.ClaimJoined
import GoSem.ClaimMapViews
import Derived.JoinedTies
import Derived.KernelRfl
namespace Go.Proofs.Ytgggeikfajhfdaa
/- THE CELL 'sum', in the pinned program and in every row, IS THE sha256 OF THE DUMP (.gsa) THAT YtgggeikfajhfdaaProg.lean LOADS. Nothing in Lean hashes anything: it is a label: what it is worth is what the hold of that sum in a sandbox is worth. -/
noncomputable def Try.pinned : Pinned := { name := "ytgggeikfajhfdaa", sum := "17451fdb6e2cec79e3bdb6fcba110443068a9f625509991f6cb454980ceb242b", checked := Try.checked }
namespace Rows
def none {H : Type} : Left H := { results := [], args := [] }

/-- 'masonrylaw5.GearTells': WHATEVER THE INPUT: true; the input reads as it did. -/
def gearTellsSpec : ChangeSpec := { name := "gearTells", fn := fun _ => fun
  | [d1, d2, d3] => { results := [.lit (.bool true)], args := [d1, d2, d3] }
  | _ => none }
def gearTellsRow : OpenClaim := { program := "ytgggeikfajhfdaa", sum := "17451fdb6e2cec79e3bdb6fcba110443068a9f625509991f6cb454980ceb242b", func := "masonry/masonrylaw5.GearTells", spec := "gearTells", apart := false }
def GearTellsSaid : Prop := gearTellsRow.holds Try.pinned (OpenSpec.ofChange gearTellsSpec)

/-- ITS FALSE NEIGHBOUR: 'it returns false'. Refute it at one input. -/
def gearTellsWrong : ChangeSpec := { name := "gearTells", fn := fun _ => fun
  | [d1, d2, d3] => { results := [.lit (.bool false)], args := [d1, d2, d3] }
  | _ => none }
def GearTellsWrongFalsely : Prop := gearTellsRow.holds Try.pinned (OpenSpec.ofChange gearTellsWrong)

/-- 'masonrylaw5.GearForgets': WHATEVER THE INPUT: true; the input reads as it did. -/
def gearForgetsSpec : ChangeSpec := { name := "gearForgets", fn := fun _ => fun
  | [d1, d2, d3] => { results := [.lit (.bool true)], args := [d1, d2, d3] }
  | _ => none }
def gearForgetsRow : OpenClaim := { program := "ytgggeikfajhfdaa", sum := "17451fdb6e2cec79e3bdb6fcba110443068a9f625509991f6cb454980ceb242b", func := "masonry/masonrylaw5.GearForgets", spec := "gearForgets", apart := false }
def GearForgetsSaid : Prop := gearForgetsRow.holds Try.pinned (OpenSpec.ofChange gearForgetsSpec)

/-- ITS FALSE NEIGHBOUR: 'it returns false'. Refute it at one input. -/
def gearForgetsWrong : ChangeSpec := { name := "gearForgets", fn := fun _ => fun
  | [d1, d2, d3] => { results := [.lit (.bool false)], args := [d1, d2, d3] }
  | _ => none }
def GearForgetsWrongFalsely : Prop := gearForgetsRow.holds Try.pinned (OpenSpec.ofChange gearForgetsWrong)

/-- 'masonrylaw5.GearSteps': WHATEVER THE INPUT: true; the input reads as it did. -/
def gearStepsSpec : ChangeSpec := { name := "gearSteps", fn := fun _ => fun
  | [d1, d2] => { results := [.lit (.bool true)], args := [d1, d2] }
  | _ => none }
def gearStepsRow : OpenClaim := { program := "ytgggeikfajhfdaa", sum := "17451fdb6e2cec79e3bdb6fcba110443068a9f625509991f6cb454980ceb242b", func := "masonry/masonrylaw5.GearSteps", spec := "gearSteps", apart := false }
def GearStepsSaid : Prop := gearStepsRow.holds Try.pinned (OpenSpec.ofChange gearStepsSpec)

/-- ITS FALSE NEIGHBOUR: 'it returns false'. Refute it at one input. -/
def gearStepsWrong : ChangeSpec := { name := "gearSteps", fn := fun _ => fun
  | [d1, d2] => { results := [.lit (.bool false)], args := [d1, d2] }
  | _ => none }
def GearStepsWrongFalsely : Prop := gearStepsRow.holds Try.pinned (OpenSpec.ofChange gearStepsWrong)

/- THE SECOND FORM. 'bulk': how many values and letters a reading holds, each counted each time it is reached (what is shared counts as often as it is met; a slice's spare places count too). A statement '..UptoSaid' is the law's where the arguments, and the package variables that the reading takes, are together of bulk at most 1048576: NARROWER than '..Said'. Prove '..Said' where nothing that the law and all that it calls make is longer than what came in: it says more and counts as full. Else prove '..UptoSaid'. A law counts once. -/
mutual
def uptoBulk {H : Type} : DataW H → Nat
  | .lit (.string bytes) => bytes.length + 1
  | .lit _ => 1
  | .nil => 1
  | .ptr d => uptoBulk d + 1
  | .slice elems spare => uptoBulkAll elems + uptoBulkAll spare + 1
  | .agg parts => uptoBulkAll parts + 1
  | .iface _ d => uptoBulk d + 1
  | .map entries => uptoBulkEntries entries + 1
  | .held _ => 1
def uptoBulkAll {H : Type} : List (DataW H) → Nat
  | [] => 0
  | d :: r => uptoBulk d + uptoBulkAll r
def uptoBulkEntries {H : Type} : List (Lit × DataW H) → Nat
  | [] => 0
  | x :: r => uptoBulkEntry x + uptoBulkEntries r
def uptoBulkEntry {H : Type} : Lit × DataW H → Nat
  | (.string bytes, d) => bytes.length + uptoBulk d + 1
  | (_, d) => uptoBulk d + 1
 end
def uptoSmall : (H : Type) → List (DataW H) → Bool := fun _ ds => decide (uptoBulkAll ds ≤ 1048576)
def OpenSpec.upto (s : _root_.Go.ChangeSpec) : _root_.Go.OpenSpec := { _root_.Go.OpenSpec.ofChange s with cond := some uptoSmall }

/-- 'masonrylaw5.GearTells', WHERE WHAT IT READS IS OF BULK AT MOST 1048576: true; the input reads as it did. -/
def gearTellsUptoRow : OpenClaim := { program := "ytgggeikfajhfdaa", sum := "17451fdb6e2cec79e3bdb6fcba110443068a9f625509991f6cb454980ceb242b", func := "masonry/masonrylaw5.GearTells", spec := "gearTells", apart := false, narrowed := true }
def GearTellsUptoSaid : Prop := gearTellsUptoRow.holds Try.pinned (OpenSpec.upto gearTellsSpec)

/-- 'masonrylaw5.GearForgets', WHERE WHAT IT READS IS OF BULK AT MOST 1048576: true; the input reads as it did. -/
def gearForgetsUptoRow : OpenClaim := { program := "ytgggeikfajhfdaa", sum := "17451fdb6e2cec79e3bdb6fcba110443068a9f625509991f6cb454980ceb242b", func := "masonry/masonrylaw5.GearForgets", spec := "gearForgets", apart := false, narrowed := true }
def GearForgetsUptoSaid : Prop := gearForgetsUptoRow.holds Try.pinned (OpenSpec.upto gearForgetsSpec)

/-- 'masonrylaw5.GearSteps', WHERE WHAT IT READS IS OF BULK AT MOST 1048576: true; the input reads as it did. -/
def gearStepsUptoRow : OpenClaim := { program := "ytgggeikfajhfdaa", sum := "17451fdb6e2cec79e3bdb6fcba110443068a9f625509991f6cb454980ceb242b", func := "masonry/masonrylaw5.GearSteps", spec := "gearSteps", apart := false, narrowed := true }
def GearStepsUptoSaid : Prop := gearStepsUptoRow.holds Try.pinned (OpenSpec.upto gearStepsSpec)

end Rows
end Go.Proofs.Ytgggeikfajhfdaa
