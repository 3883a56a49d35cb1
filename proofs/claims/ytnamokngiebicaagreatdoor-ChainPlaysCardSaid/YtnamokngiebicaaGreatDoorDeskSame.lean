/-
  What a run of acts leaves as it was: all but which sectors are in use and what is laid. No statement is proved here.
-/
import Derived.Test.YtnamokngiebicaaGreatDoorDeskMarks
import Derived.Test.YtnamokngiebicaaGreatDoorIntsView
import Derived.Deep.SlicePairs
import Derived.Deep.Slices
import Derived.Lib.SmallJoins
namespace Go.Proofs.YtnamokngiebicaaGreatDoor
open Go.ChangeShapes Go.WideShapes Go.ChangeAt Go.RowKit
open Go.WideMaps Go.WideElems
open Go.Deep

structure Op11 where
  kind : Int
  a : Int
  s : ByteArray
  la : Option Addr
  lc : Nat
  l : List Int
def Op11.cells (d : Op11) : Array Value := #[.int .i64 d.kind, .int .i64 d.a, .string d.s, .slice d.la d.l.length d.lc]
structure Op11.In (d : Op11) (w : World) (B : Nat) : Prop where
  kindin : -9223372036854775808 ≤ d.kind ∧ d.kind ≤ 9223372036854775807
  ain : -9223372036854775808 ≤ d.a ∧ d.a ≤ 9223372036854775807
  sfew : d.s.size ≤ 9223372036854775807
  ls : Ints w B d.la d.l
  ln : d.la = none → d.l.length = 0 ∧ d.lc = 0
  lfew : d.l.length ≤ 9223372036854775807
theorem Op11.In.below {d : Op11} {w w' : World} {B : Nat} (h : d.In w B) (hb : Below B w w') : d.In w' B := ⟨h.kindin, h.ain, h.sfew, h.ls.below hb, h.ln, h.lfew⟩
def Acts11 (w : World) (B : Nat) (A : Option Addr) (ds : List Op11) : Prop :=
  0 < ds.length → ∃ b off, A = some ⟨b, off, none⟩ ∧ b < w.heap.size ∧ b < B ∧ ∀ (j : Nat) (d : Op11), ds[j]? = some d → w.cell? ⟨b, off + j * 4, none⟩ = some (.int .i64 d.kind) ∧ w.cell? ⟨b, off + j * 4 + 1, none⟩ = some (.int .i64 d.a) ∧ w.cell? ⟨b, off + j * 4 + 2, none⟩ = some (.string d.s) ∧ w.cell? ⟨b, off + j * 4 + 3, none⟩ = some (.slice d.la d.l.length d.lc) ∧ d.In w B
theorem Acts11.below {w w' : World} {B : Nat} {A : Option Addr} {ds : List Op11} (h : Acts11 w B A ds) (hs : w.heap.size ≤ w'.heap.size) (hb : Below B w w') : Acts11 w' B A ds := fun hp => by
  obtain ⟨b, off, e, h1, h2, hc⟩ := h hp
  refine ⟨b, off, e, Nat.lt_of_lt_of_le h1 hs, h2, fun j d hd => ?_⟩
  obtain ⟨q0, q1, q2, q3, q4⟩ := hc j d hd
  exact ⟨(hb.cell (p := ⟨b, off + j * 4, none⟩) h2).trans q0, (hb.cell (p := ⟨b, off + j * 4 + 1, none⟩) h2).trans q1, (hb.cell (p := ⟨b, off + j * 4 + 2, none⟩) h2).trans q2, (hb.cell (p := ⟨b, off + j * 4 + 3, none⟩) h2).trans q3, q4.below hb⟩

instance : Inhabited Op11 := ⟨⟨0, 0, .empty, none, 0, []⟩⟩
/-- A list of acts that came in. -/
structure Acts11In (w : World) (A : Option Addr) (n c : Nat) (ds : List Op11) : Prop where
  lie : Acts11 w w.heap.size A ds
  len : ds.length = n
  few : n ≤ 9223372036854775807
  nil_ : A = none → n = 0 ∧ c = 0
end Go.Proofs.YtnamokngiebicaaGreatDoor

namespace Go.Proofs.YtnamokngiebicaaGreatDoor
open Go.RowKit

noncomputable def leastN (H : List Int) : Nat := by classical exact if h : ∃ k, Least H k then h.choose else 0
theorem leastN_spec {n : Nat} {H : List Int} (ho : HOk n H) : Least H (leastN H) := by
  have e := least_ex ho
  unfold leastN
  rw [dif_pos e]
  exact e.choose_spec
/-- New as a step: nothing where all are in use. -/
noncomputable def newS (N : Nat) (K : KD) (x : ByteArray) : KD := if leastN K.H < N - 111 then newK K (leastN K.H) x else K
noncomputable def stepK (N : Nat) (K : KD) (d : Op11) : KD :=
  if d.kind = 1 then setK K d.a (fillB d.s) else if d.kind = 2 then newS N K (fillB d.s) else if d.kind = 3 then dropK K d.l else if d.kind = 4 then stayK K d.l else K
noncomputable def runK (N : Nat) (K : KD) (ds : List Op11) : KD := ds.foldl (stepK N) K
section
variable {N : Nat} {K : KD} {h : List ByteArray} {c : Nat}
theorem Run11.newS (r : Run11 N K h c) {x : ByteArray} (hx : x.size = 256) : Run11 N (newS N K x) h c := by
  unfold Go.Proofs.YtnamokngiebicaaGreatDoor.newS
  split
  · exact r.new (leastN_spec r.hok) (by assumption) hx
  · exact r
theorem Run11.step (r : Run11 N K h c) (d : Op11) (hx : (fillB d.s).size = 256) : Run11 N (stepK N K d) h c := by
  unfold stepK
  split
  · exact r.set _ _
  · split
    · exact r.newS hx
    · split
      · exact r.drop _
      · split
        · exact r.stay _
        · exact r
end
section
variable {w0 w w' : World} {g gd m N : Nat} {K : KD} {h : List ByteArray} {c : Nat} {Ms : List MK}
end
end Go.Proofs.YtnamokngiebicaaGreatDoor

namespace Go.Proofs.YtnamokngiebicaaGreatDoor
open Go.RowKit

theorem backK_self (K : KD) : backK K K.F K.H = K := rfl
end Go.Proofs.YtnamokngiebicaaGreatDoor
