/-
  masonrybook's book as one fact: which lists of numbers it keeps, one more, what stays, and that all are apart. No statement is proved here.
-/
import Derived.Test.YtolbnkpakjdnnaaGreatDoorProg
import Derived.Test.YtolbnkpakjdnnaaGreatDoorDiskPure
import Derived.Outline
import Derived.Test.YtolbnkpakjdnnaaGreatDoorBookMarked
namespace Go.Proofs.YtolbnkpakjdnnaaGreatDoor
open Go.RowKit

end Go.Proofs.YtolbnkpakjdnnaaGreatDoor

namespace Go.Proofs.YtolbnkpakjdnnaaGreatDoor
open Go.RowKit

/-- The book with lists of numbers alone. -/
def bookI (P Q : Value) : Array Value := #[.slice none 0 0, .slice none 0 0, P, Q, .slice none 0 0, .slice none 0 0, .slice none 0 0, .slice none 0 0, .slice none 0 0, .slice none 0 0, .slice none 0 0, .slice none 0 0, .slice none 0 0, .slice none 0 0, .slice none 0 0, .slice none 0 0]
theorem PutTo.vals {ls zs : List LI} {i j : Nat} (h : PutTo ls zs i j) : zs.map LI.val = ls.map LI.val := by
  apply List.ext_getElem?
  intro a
  rw [List.getElem?_map, List.getElem?_map]
  rcases Nat.lt_or_ge a ls.length with ha | ha
  · have hz : a < zs.length := by rw [h.len]; exact ha
    rw [List.getElem?_eq_getElem ha, List.getElem?_eq_getElem hz]
    obtain ⟨e1, e2, e3⟩ := h.like a zs[a] ls[a] (List.getElem?_eq_getElem hz) (List.getElem?_eq_getElem ha)
    simp only [Option.map_some]
    unfold LI.val
    rw [e1, e2, e3]
  · rw [List.getElem?_eq_none ha, List.getElem?_eq_none (by rw [h.len]; exact ha)]
theorem freeOf_vals {ls zs : List LI} (h : zs.map LI.val = ls.map LI.val) {b : Nat} (hf : FreeOf ls b) : FreeOf zs b := fun l hl => by
  have : l.val ∈ ls.map LI.val := by rw [← h]; exact List.mem_map_of_mem hl
  obtain ⟨l', hl', e⟩ := List.mem_map.1 this
  rw [← e]
  exact hf l' hl'
theorem row_at {w : World} {base n cap : Nat} {p : Option Addr} {vs : List Value} (h : w.ownsRow base 30 1 (.slice p n cap) n vs) : RowAt w p vs := fun hp => by
  have hl := h.1
  obtain ⟨g, c, e, _, hlt⟩ := h.form (by omega)
  injection e with e1 _ e3
  subst e1 e3
  exact ⟨g, 0, rfl, hlt, fun j v hv => by rw [Nat.zero_add]; exact krow_cell h hv⟩
theorem Blk.butKept {w w' : World} {ls : List LI} {B g : Nat} {t : TypeId} {cs : Array Value} (h : Blk w g t cs) (hk : KeptBut ls B w w') (hf : FreeOf ls g) : Blk w' g t cs := (hk.block g h.lt hf).trans h

end Go.Proofs.YtolbnkpakjdnnaaGreatDoor

namespace Go.Proofs.YtolbnkpakjdnnaaGreatDoor
open Go.RowKit

end Go.Proofs.YtolbnkpakjdnnaaGreatDoor

namespace Go.Proofs.YtolbnkpakjdnnaaGreatDoor
open Go.RowKit

theorem row_type {w : World} {base n : Nat} {e : TypeId} {v : Value} {xs : List Value} (h : w.ownsRow base e 1 v n xs) {b : Nat} (hb : v.ownBlock = some b) : ∃ cs, w.heap[b]? = some (.cells cs e (0, 0)) := by
  rcases h.2 with ⟨rfl, _⟩ | ⟨g, cap, cur, rfl, _, hg, _⟩
  · cases hb
  · injection hb with hb
    have hb : g = b := hb
    subst hb
    exact ⟨cur, hg⟩
theorem row_apart {w : World} {base base' n n' : Nat} {e e' : TypeId} {v v' : Value} {xs xs' : List Value} (h : w.ownsRow base e 1 v n xs) (h' : w.ownsRow base' e' 1 v' n' xs') (he : e ≠ e') {b : Nat} (hb : v.ownBlock = some b) : v'.ownBlock ≠ some b := fun hb' => by
  obtain ⟨cs, h1⟩ := row_type h hb
  obtain ⟨cs', h2⟩ := row_type h' hb'
  rw [h1] at h2
  injection h2 with h2
  injection h2 with _ h2 _
  exact he h2
theorem row_off {w : World} {base n g : Nat} {e t : TypeId} {v : Value} {xs : List Value} {cs : Array Value} (h : w.ownsRow base e 1 v n xs) (hb : Blk w g t cs) (he : e ≠ t) : v.ownBlock ≠ some g := fun hb' => by
  obtain ⟨cs', h2⟩ := row_type h hb'
  have hb : w.heap[g]? = _ := hb
  rw [hb] at h2
  injection h2 with h2
  injection h2 with _ h2 _
  exact he h2.symm

theorem rowAt_own {w : World} {base n cap : Nat} {p : Option Addr} {vs : List Value} (h : w.ownsRow base 30 1 (.slice p n cap) n vs) : RowAt w p vs := row_at h

end Go.Proofs.YtolbnkpakjdnnaaGreatDoor
