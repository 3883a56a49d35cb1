/-
  A result that lies in a cell, beside a number. No statement is proved here.
-/
import Derived.Test.YtnamokngiebicaaGreatDoorDiskPure
namespace Go.Proofs.YtnamokngiebicaaGreatDoor
open Go.RowKit

theorem ret_cell2k {P : Program} {fn : Func} {R : Ending → World → Prop} {a : Act} {w : World} {q r : Tmp} {ty : TypeId} {ad : Addr} {v u : Value} (h : fn.results = #[.cell q ty, .tmp r]) (hp : a.tmps.getD q undef = .pointer (some ad))
    (hl : (loadVar ty ad).run P w = .ok v w) (hu : a.tmps.getD r undef = u) (hd : a.defers = []) (hR : R (.returned (.tuple #[v, u])) w) : bodyPost P fn R .ret a w := by
  refine bodyPost_ret (v := .tuple #[v, u]) ?_ hd hR
  simp only [results, h]
  have hp' : a.tmps[q]?.getD undef = .pointer (some ad) := by simpa using hp
  have hu' : a.tmps[r]?.getD undef = u := by simpa using hu
  simp [hp', hu', asAddr, hl]
end Go.Proofs.YtnamokngiebicaaGreatDoor
