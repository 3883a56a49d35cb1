/-
  Package wal's laws: what is written at a time; a set of places. No statement is proved here.
-/
import Derived.Test.YtnamokngiebicaaGreatDoorWalAlive
import Derived.Test.YtnamokngiebicaaGreatDoorHeadRead
import Derived.Maps.StringElems
namespace Go.Proofs.YtnamokngiebicaaGreatDoor
open Go.RowKit

/-- What redo writes home. -/
def redoL (X : List ByteArray) : Nat → List Int → List Wr1
  | _, [] => []
  | k, t :: r => (111 + t, X.getD (1 + k) .empty) :: redoL X (k + 1) r
theorem redoL_at (X : List ByteArray) (ts : List Int) : ∀ k, ∀ x ∈ redoL X k ts, ∃ (j : Nat) (t : Int), x = (111 + t, X.getD (1 + j) .empty) ∧ k ≤ j ∧ j < k + ts.length ∧ t ∈ ts ∧ ts[j - k]? = some t := by
  induction ts with
  | nil => intro k x hx; cases hx
  | cons t r ih =>
    intro k x hx
    rcases List.mem_cons.1 hx with rfl | hx
    · exact ⟨k, t, rfl, Nat.le_refl _, by simp, by simp, by simp⟩
    · obtain ⟨j, u, e, h1, h2, h3, h4⟩ := ih (k + 1) x hx
      refine ⟨j, u, e, by omega, by simp only [List.length_cons]; omega, by simp [h3], ?_⟩
      rw [show j - k = (j - (k + 1)) + 1 by omega, List.getElem?_cons_succ]
      exact h4
/-- A row of writes as far as it is filled. -/
structure RowTo (w : World) (g tn : Nat) (l : List Wr1) (j : Nat) : Prop where
  ex : ∃ C : List Value, Blk w g 109 C.toArray ∧ C.length = tn * 2 ∧ C.take (j * 2) = flatI (l.take j)
theorem RowTo.below {w w' : World} {g tn j : Nat} {l : List Wr1} (h : RowTo w g tn l j) (hb : Below w.heap.size w w') : RowTo w' g tn l j := by
  obtain ⟨C, h1, h2, h3⟩ := h.ex
  exact ⟨C, h1.below hb h1.lt, h2, h3⟩
theorem RowTo.next {w : World} {g tn j : Nat} {l : List Wr1} {x : Wr1} (h : RowTo w g tn l j) (hx : l[j]? = some x) (hj : j < tn) :
    ∃ u0 u1, w.cell? ⟨g, j * 2, none⟩ = some u0 ∧ w.cell? ⟨g, j * 2 + 1, none⟩ = some u1 ∧ w.frozen? ⟨g, j * 2, none⟩ = false ∧ w.frozen? ⟨g, j * 2 + 1, none⟩ = false ∧ g < w.heap.size ∧
      RowTo ((w.setCell ⟨g, j * 2, none⟩ (.int .i64 x.1)).setCell ⟨g, j * 2 + 1, none⟩ (.string x.2)) g tn l (j + 1) := by
  obtain ⟨C, h1, h2, h3⟩ := h.ex
  refine ⟨C[j * 2]'(by omega), C[j * 2 + 1]'(by omega), ?_, ?_, h1.frozen _, h1.frozen _, h1.lt, (C.set (j * 2) (.int .i64 x.1)).set (j * 2 + 1) (.string x.2), ?_, by simpa using h2, ?_⟩
  · rw [h1.cell, List.getElem?_toArray, List.getElem?_eq_getElem]
  · rw [h1.cell, List.getElem?_toArray, List.getElem?_eq_getElem]
  · have := (h1.put (j * 2) (.int .i64 x.1)).put (j * 2 + 1) (.string x.2)
    simpa using this
  · have e : l.take (j + 1) = l.take j ++ [x] := by rw [List.take_add_one, hx]; rfl
    rw [e, flatI_snoc, ← h3]
    rw [show (j + 1) * 2 = j * 2 + 1 + 1 by omega]
    have hl : j * 2 + 1 < ((C.set (j * 2) (.int .i64 x.1)).set (j * 2 + 1) (.string x.2)).length := by simp; omega
    have hl0 : j * 2 < ((C.set (j * 2) (.int .i64 x.1)).set (j * 2 + 1) (.string x.2)).length := by simp; omega
    rw [List.take_succ_eq_append_getElem hl, List.take_succ_eq_append_getElem hl0]
    rw [List.getElem_set_self, List.getElem_set_ne (by omega), List.getElem_set_self, List.take_set_of_le (by omega), List.take_set_of_le (Nat.le_refl _)]
    simp
theorem RowTo.wrts {w : World} {g tn : Nat} {l : List Wr1} {O : List Nat} (h : RowTo w g tn l tn) (hl : l.length = tn) (hO : g ∉ O) : Wrts w O (some ⟨g, 0, none⟩) l := fun _ => by
  obtain ⟨C, h1, h2, h3⟩ := h.ex
  rw [List.take_of_length_le (by omega), List.take_of_length_le (by omega)] at h3
  subst h3
  refine ⟨g, 0, rfl, h1.lt, hO, fun j x hx => ?_⟩
  obtain ⟨q1, q2⟩ := flatI_get hx
  rw [h1.cell, h1.cell, List.getElem?_toArray, List.getElem?_toArray, show 0 + j * 2 = 2 * j by omega]
  exact ⟨q1, q2⟩

structure RedoOk (N : Nat) (q : Int) (X : List ByteArray) (T : List Int) : Prop where
  len : X.length = N
  dim : 140 ≤ N ∧ N ≤ 2000
  few : T.length ≤ 110
  range : ∀ t ∈ T, 0 ≤ t ∧ 111 + t < (N : Int)
  seq : 0 ≤ q ∧ q ≤ 1099511627776
  size : ∀ k, k < T.length → (X.getD (1 + k) .empty).size = 256
  small : ∀ x ∈ X, x.size ≤ 100000
def redoS (X : List ByteArray) (q : Int) (T : List Int) : List ByteArray := setI (setI X (redoL X 0 T)) [(0, doneB q)]
theorem RedoOk.fits {N : Nat} {q : Int} {X : List ByteArray} {T : List Int} (h : RedoOk N q X T) : ∀ g ∈ [redoL X 0 T, [(0, doneB q)]], Fit N g := by
  intro g hg x hx
  simp only [List.mem_cons, List.not_mem_nil, or_false] at hg
  rcases hg with rfl | rfl
  · obtain ⟨j, t, rfl, h1, h2, h3, h4⟩ := redoL_at X T 0 x hx
    have := h.range t h3
    exact ⟨by simp only; omega, by simp only; omega, h.size j (by omega)⟩
  · rw [List.mem_singleton.1 hx]
    have := h.dim
    exact ⟨by simp, by simp only; omega, doneB_size h.seq.1 h.seq.2⟩

end Go.Proofs.YtnamokngiebicaaGreatDoor

namespace Go.Proofs.YtnamokngiebicaaGreatDoor
open Go.RowKit

/-- A disk that was opened: the Wal, and what is as it was. -/
def OpenedAt (O : List Nat) (gd gw : Nat) (S : DS) (q : Int) (w w' : World) : Prop :=
  ∃ O', DiskAt w' O' gd S ∧ (∀ b ∈ O', b ∈ O ∨ w.heap.size ≤ b) ∧ Keep O w w' ∧ Blk w' gw 138 (walC gd q true 0) ∧ w.heap.size ≤ gw ∧ gw ∉ O'
theorem OpenedAt.after {O : List Nat} {gd gw : Nat} {S1 S : DS} {q : Int} {w w1 w' : World} (hT : Turns O gd S1 w w1) (h : ∀ O1, DiskAt w1 O1 gd S1 → OpenedAt O1 gd gw S q w1 w') : OpenedAt O gd gw S q w w' := by
  obtain ⟨O1, d1, d2, d3⟩ := hT
  obtain ⟨O2, e1, e2, e3, e4, e5, e6⟩ := h O1 d1
  refine ⟨O2, e1, fun b hb => ?_, d3.trans e3 d2, e4, Nat.le_trans d3.size e5, e6⟩
  rcases e2 b hb with hb | hb
  · exact d2 b hb
  · exact .inr (Nat.le_trans d3.size hb)
theorem OpenedAt.of_plain {O : List Nat} {gd gw : Nat} {S : DS} {q : Int} {w w' : World} (hd : DiskAt w O gd S) (h1 : Blk w' gw 138 (walC gd q true 0)) (h2 : w.heap.size ≤ gw) (h3 : Below w.heap.size w w') : OpenedAt O gd gw S q w w' :=
  ⟨O, hd.below h3, fun b hb => .inl hb, Keep.of_below h3, h1, h2, fun hm => by have := hd.lt hm; omega⟩

end Go.Proofs.YtnamokngiebicaaGreatDoor

namespace Go.Proofs.YtnamokngiebicaaGreatDoor
open Go.RowKit

/-- Each sector is as it was, or one of those that were to be written there. -/
def Part (s : List ByteArray) (g : List (Nat × ByteArray)) (Y : List ByteArray) : Prop := Y.length = s.length ∧ ∀ i : Nat, Y[i]? = s[i]? ∨ ∃ x ∈ g, x.1 = i ∧ Y[i]? = some x.2
theorem Part.refl (s : List ByteArray) (g : List (Nat × ByteArray)) : Part s g s := ⟨rfl, fun _ => .inl rfl⟩
theorem Part.mono {s Y : List ByteArray} {g g' : List (Nat × ByteArray)} (h : Part s g Y) (hg : ∀ x ∈ g, x ∈ g') : Part s g' Y :=
  ⟨h.1, fun i => (h.2 i).imp id fun ⟨x, hx, e⟩ => ⟨x, hg x hx, e⟩⟩
/-- A disk whose power went: what it holds is safe. -/
structure Dead (S : DS) (Y : List ByteArray) : Prop where
  off : S.on = false
  now : S.now = Y
  safe : S.safe = Y
  dirty : S.dirty = []
  unarmed : S.armed = false
  left : S.left = 0
  keep : S.keep = []
theorem crash_dead {S : DS} (hon : S.on = true) (keep : List Int) : Dead (S.crash keep) (keptL keep 0 S.dirty S.safe) := by
  unfold DS.crash
  rw [if_pos hon]
  exact ⟨rfl, rfl, rfl, rfl, rfl, rfl, rfl⟩
theorem Dead.crash {S : DS} {Y : List ByteArray} (h : Dead S Y) (keep : List Int) : S.crash keep = S := by
  unfold DS.crash
  rw [if_neg (by rw [h.off]; decide)]
def natW (g : List Wr1) : List (Nat × ByteArray) := g.map fun x => (x.1.toNat, x.2)
/-- A disk with power on which all is safe. -/
structure Clean (S : DS) (s : List ByteArray) : Prop where
  on : S.on = true
  now : S.now = s
  safe : S.safe = s
  dirty : S.dirty = []
theorem Clean.ok {S : DS} {s : List ByteArray} (h : Clean S s) : S.Ok := ⟨by rw [h.now, h.safe, h.dirty]; rfl, by rw [h.dirty]; intro w hw; cases hw⟩
end Go.Proofs.YtnamokngiebicaaGreatDoor

namespace Go.Proofs.YtnamokngiebicaaGreatDoor
open Go.RowKit Go.WideMaps Go.Maps

/-- What is written at time i. -/
def roundB (i : Nat) : ByteArray := fillB ⟨#[(97 + i).toUInt8]⟩
theorem roundB_size (i : Nat) : (roundB i).size = 256 := fillB_size _

/-- The place that a number names. -/
def atK (y : Int) : Nat := (y % 80).toNat
/-- The set in block b holds just these. -/
def SetIs (w : World) (b n : Nat) (L : List Int) : Prop :=
  ∃ D : DataW Unit, w.ownsMap Tryz.prog 3 (plainElem Tryz.prog 4) b n D ∧ Maps.size D = L.length ∧ ∀ t : Int, -9223372036854775808 ≤ t → t ≤ 9223372036854775807 → Maps.has D (.int .i64 t) = decide (t ∈ L)
theorem SetIs.lt {w : World} {b n : Nat} {L : List Int} (h : SetIs w b n L) : b < w.heap.size := by
  obtain ⟨D, h, _⟩ := h
  exact h.lt
theorem SetIs.kept {w w' : World} {b n : Nat} {L : List Int} (h : SetIs w b n L) (hb : w'.heap[b]? = w.heap[b]?) : SetIs w' b n L := by
  obtain ⟨D, ⟨es, clock, h1, h2⟩, h3⟩ := h
  exact ⟨D, ⟨es, clock, hb.trans h1, h2⟩, h3⟩
theorem SetIs.below {w w' : World} {b n : Nat} {L : List Int} (h : SetIs w b n L) (hb : Below w.heap.size w w') : SetIs w' b n L := h.kept (hb.block b h.lt)
theorem SetIs.made (w : World) : SetIs (w.alloc (.map #[] 0)) w.heap.size 0 [] :=
  ⟨.map [], World.ownsMap_made _ _ _ _, rfl, fun _ _ _ => rfl⟩
end Go.Proofs.YtnamokngiebicaaGreatDoor
