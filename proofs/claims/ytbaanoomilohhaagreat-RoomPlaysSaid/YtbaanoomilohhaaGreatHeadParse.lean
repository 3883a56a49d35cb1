/-
  Package head's parse. No statement is proved here.
-/
import Derived.Test.YtbaanoomilohhaaGreatHeadLay
import Derived.Test.YtbaanoomilohhaaGreatPhase
import Derived.Test.YtbaanoomilohhaaGreatIn
namespace Go.Proofs.YtbaanoomilohhaaGreat
open Go.RowKit

theorem hints_info : (Tryz.prog.info? 3).map (fun i => (i.zero, i.size, i.bytes)) = some (some (.int .i64 0), 1, 8) := by kernel_rfl
theorem InAt.far {w w' : World} {g : Nat} {s : Rd} (h : InAt w g s) (hh : w'.heap[g]? = w.heap[g]?) : InAt w' g s := hh.trans h
theorem InAt.lt {w : World} {g : Nat} {s : Rd} (h : InAt w g s) : g < w.heap.size := Blk.lt h
theorem row_other {w w' : World} {base : Nat} {e : TypeId} {size : Nat} {v : Value} {n : Nat} {xs : List Value} {row : Option Nat} (h : w.ownsRow base e size v n xs) (hg : w.grownBy w' row) (hr : ∀ k, row = some k → v.ownBlock ≠ some k) : w'.ownsRow base e size v n xs := by
  refine ⟨h.1, ?_⟩
  rcases h.2 with hn | ⟨g, cap, cur, rfl, hb1, hgg, rest⟩
  · exact .inl hn
  · exact .inr ⟨g, cap, cur, rfl, hb1, (hg.block g (h.lt g rfl).2 (fun e => hr g e.symm rfl)).trans hgg, rest⟩
theorem blk_other {w w' : World} {g : Nat} {t : TypeId} {cs : Array Value} {row : Option Nat} (h : Blk w g t cs) (hg : w.grownBy w' row) (hr : row ≠ some g) : Blk w' g t cs := (hg.block g h.lt (fun e => hr e.symm)).trans h

theorem row_slice' {w : World} {base : Nat} {e : TypeId} {size : Nat} {v : Value} {n : Nat} {xs : List Value} (h : w.ownsRow base e size v n xs) : ∃ p cap, v = .slice p n cap ∧ (p = none → n = 0) := by
  rcases h.2 with ⟨rfl, rfl⟩ | ⟨g, cap, cur, rfl, _⟩
  · exact ⟨none, 0, rfl, fun _ => rfl⟩
  · exact ⟨some ⟨g, 0, none⟩, cap, rfl, fun h => by cases h⟩
theorem row_kept' {w w' : World} {base : Nat} {e : TypeId} {size : Nat} {v : Value} {n : Nat} {xs : List Value} (h : w.ownsRow base e size v n xs) (hb : ∀ k, v.ownBlock = some k → w'.heap[k]? = w.heap[k]?) : w'.ownsRow base e size v n xs := by
  refine ⟨h.1, ?_⟩
  rcases h.2 with hn | ⟨g, cap, cur, rfl, hb1, hgg, rest⟩
  · exact .inl hn
  · exact .inr ⟨g, cap, cur, rfl, hb1, by rw [hb g rfl]; exact hgg, rest⟩

end Go.Proofs.YtbaanoomilohhaaGreat
