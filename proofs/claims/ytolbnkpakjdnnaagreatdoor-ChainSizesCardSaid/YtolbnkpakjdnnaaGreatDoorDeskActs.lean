/-
  Acts on a Desk that came in as an argument. No statement is proved here.
-/
import Derived.Test.YtolbnkpakjdnnaaGreatDoorDeskMarks
import Derived.Test.YtolbnkpakjdnnaaGreatDoorIntsView
import Derived.Deep.SlicePairs
import Derived.Deep.Slices
import Derived.Lib.SmallJoins
namespace Go.Proofs.YtolbnkpakjdnnaaGreatDoor
open Go.ChangeShapes Go.WideShapes Go.ChangeAt Go.RowKit
open Go.WideMaps Go.WideElems
open Go.Deep

structure Op11 where
  kind : Int
  a : Int
  s : ByteArray
  la : Option Addr
  lc : Nat
  l : List Int
def Op11.cells (d : Op11) : Array Value := #[.int .i64 d.kind, .int .i64 d.a, .string d.s, .slice d.la d.l.length d.lc]
structure Op11.In (d : Op11) (w : World) (B : Nat) : Prop where
  kindin : -9223372036854775808 ≤ d.kind ∧ d.kind ≤ 9223372036854775807
  ain : -9223372036854775808 ≤ d.a ∧ d.a ≤ 9223372036854775807
  sfew : d.s.size ≤ 9223372036854775807
  ls : Ints w B d.la d.l
  ln : d.la = none → d.l.length = 0 ∧ d.lc = 0
  lfew : d.l.length ≤ 9223372036854775807
theorem Op11.In.below {d : Op11} {w w' : World} {B : Nat} (h : d.In w B) (hb : Below B w w') : d.In w' B := ⟨h.kindin, h.ain, h.sfew, h.ls.below hb, h.ln, h.lfew⟩
def Acts11 (w : World) (B : Nat) (A : Option Addr) (ds : List Op11) : Prop :=
  0 < ds.length → ∃ b off, A = some ⟨b, off, none⟩ ∧ b < w.heap.size ∧ b < B ∧ ∀ (j : Nat) (d : Op11), ds[j]? = some d → w.cell? ⟨b, off + j * 4, none⟩ = some (.int .i64 d.kind) ∧ w.cell? ⟨b, off + j * 4 + 1, none⟩ = some (.int .i64 d.a) ∧ w.cell? ⟨b, off + j * 4 + 2, none⟩ = some (.string d.s) ∧ w.cell? ⟨b, off + j * 4 + 3, none⟩ = some (.slice d.la d.l.length d.lc) ∧ d.In w B
theorem Acts11.below {w w' : World} {B : Nat} {A : Option Addr} {ds : List Op11} (h : Acts11 w B A ds) (hs : w.heap.size ≤ w'.heap.size) (hb : Below B w w') : Acts11 w' B A ds := fun hp => by
  obtain ⟨b, off, e, h1, h2, hc⟩ := h hp
  refine ⟨b, off, e, Nat.lt_of_lt_of_le h1 hs, h2, fun j d hd => ?_⟩
  obtain ⟨q0, q1, q2, q3, q4⟩ := hc j d hd
  exact ⟨(hb.cell (p := ⟨b, off + j * 4, none⟩) h2).trans q0, (hb.cell (p := ⟨b, off + j * 4 + 1, none⟩) h2).trans q1, (hb.cell (p := ⟨b, off + j * 4 + 2, none⟩) h2).trans q2, (hb.cell (p := ⟨b, off + j * 4 + 3, none⟩) h2).trans q3, q4.below hb⟩

instance : Inhabited Op11 := ⟨⟨0, 0, .empty, none, 0, []⟩⟩
/-- A list of acts that came in. -/
structure Acts11In (w : World) (A : Option Addr) (n c : Nat) (ds : List Op11) : Prop where
  lie : Acts11 w w.heap.size A ds
  len : ds.length = n
  few : n ≤ 9223372036854775807
  nil_ : A = none → n = 0 ∧ c = 0
end Go.Proofs.YtolbnkpakjdnnaaGreatDoor
