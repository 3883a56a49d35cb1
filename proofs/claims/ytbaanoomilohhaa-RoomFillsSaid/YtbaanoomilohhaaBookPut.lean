/-
  masonrybook's lists of numbers that are kept: all are marked. No statement is proved here.
-/
import Derived.Test.YtbaanoomilohhaaBookStill
import Derived.Test.YtbaanoomilohhaaSinks
namespace Go.Proofs.Ytbaanoomilohhaa
open Go.RowKit

section
variable {w : World} {base size n cap : Nat} {e : TypeId} {v : Value} {xs : List Value}
theorem krow_form (h : w.ownsRow base e size v n xs) : ∃ p cap, v = .slice p n cap ∧ n ≤ cap ∧ cap ≤ 9223372036854775807 ∧ (p = none → n = 0) ∧ (∀ a, p = some a → a = ⟨a.block, 0, none⟩) := by
  rcases h.2 with ⟨rfl, rfl⟩ | ⟨g, cap, cur, rfl, _, _, h1, h2, _⟩
  · exact ⟨none, 0, rfl, by omega, by omega, fun _ => rfl, fun _ h => by cases h⟩
  · exact ⟨some ⟨g, 0, none⟩, cap, rfl, h1, by simpa [maxLen] using h2, (fun h => by cases h), fun a h => by cases h; rfl⟩
theorem krow_cell {g : Nat} (h : w.ownsRow base e 1 (.slice (some ⟨g, 0, none⟩) n cap) n xs) {i : Nat} {u : Value} (hi : xs[i]? = some u) : w.cell? ⟨g, i, none⟩ = some u := by
  have := h.cells (g := g) rfl i u hi
  rwa [add_off, Nat.zero_add] at this
theorem krow_frozen {g : Nat} (h : w.ownsRow base e size (.slice (some ⟨g, 0, none⟩) n cap) n xs) (i : Nat) : w.frozen? ⟨g, i, none⟩ = false := by
  rcases h.2 with ⟨h, _⟩ | ⟨g', cap', cur, h, _, hg, _⟩
  · cases h
  · injection h with h1 _ _
    injection h1 with h1
    injection h1 with h1 _ _
    subst h1
    exact Blk.frozen (show Blk w g e cur from hg) i
theorem krow_put {g : Nat} (h : w.ownsRow base e 1 (.slice (some ⟨g, 0, none⟩) n cap) n xs) {i : Nat} (u : Value) : (w.setCell ⟨g, i, none⟩ u).ownsRow base e 1 (.slice (some ⟨g, 0, none⟩) n cap) n (xs.set i u) := by
  refine ⟨by rw [List.length_set]; exact h.1, ?_⟩
  rcases h.2 with ⟨h, _⟩ | ⟨g', cap', cur, h, hb, hg, h1, h2, h3, h4⟩
  · cases h
  · injection h with e1 _ e3
    injection e1 with e1
    injection e1 with e1 _ _
    subst e1 e3
    refine .inr ⟨g, cap, cur.setIfInBounds i u, rfl, hb, Blk.put (show Blk w g e cur from hg) i u, h1, h2, by rw [Array.size_setIfInBounds]; exact h3, ?_⟩
    rw [Array.toList_setIfInBounds, ← h4, List.take_set]
theorem krow_far {p : Addr} (h : w.ownsRow base e size v n xs) (hp : v.ownBlock ≠ some p.block) (u : Value) : (w.setCell p u).ownsRow base e size v n xs :=
  row_kept' h fun k hk => Below.heap_setCell _ _ _ _ (fun e => hp (by rw [hk, e]))
end
/-- Lists of numbers, each in a block of its own. -/
structure RowsI (w : World) (B : Nat) (ls : List LI) : Prop where
  own : ∀ (i : Nat) (l : LI), ls[i]? = some l → w.ownsRow B 3 1 l.val l.xs.length (l.xs.map (Value.int .i64))
  apart : ∀ (i j : Nat) (l l' : LI) (b : Nat), ls[i]? = some l → ls[j]? = some l' → i ≠ j → l.val.ownBlock = some b → l'.val.ownBlock ≠ some b
/-- Nobody's block among those lists'. -/
def FreeOf (ls : List LI) (b : Nat) : Prop := ∀ l ∈ ls, l.val.ownBlock ≠ some b
/-- What may turn: the blocks of those lists. -/
structure KeptBut (ls : List LI) (B : Nat) (w w' : World) : Prop where
  below : Below B w w'
  block : ∀ b, b < w.heap.size → FreeOf ls b → w'.heap[b]? = w.heap[b]?
theorem KeptBut.refl (ls : List LI) (B : Nat) (w : World) : KeptBut ls B w w := ⟨Below.refl _ _, fun _ _ _ => rfl⟩
theorem KeptBut.more {ls : List LI} {B : Nat} {w w' w'' : World} (h : KeptBut ls B w w') (hB : B ≤ w'.heap.size) (hb : Below w'.heap.size w' w'') : KeptBut ls B w w'' :=
  ⟨h.below.trans (hb.mono hB), fun b h1 h2 => (hb.block b (Nat.lt_of_lt_of_le h1 h.below.size)).trans (h.block b h1 h2)⟩
theorem KeptBut.cell {ls : List LI} {B : Nat} {w w' : World} (h : KeptBut ls B w w') {p : Addr} (hp : p.block < w.heap.size) (hf : FreeOf ls p.block) : w'.cell? p = w.cell? p := World.cell?_of_block (h.block _ hp hf)
theorem KeptBut.put {ls : List LI} {B : Nat} {w w' : World} (h : KeptBut ls B w w') {g i : Nat} (u : Value) (hB : B ≤ g) (hg : ∃ l ∈ ls, l.val.ownBlock = some g) : KeptBut ls B w (w'.setCell ⟨g, i, none⟩ u) :=
  ⟨h.below.setCell hB _, fun b h1 h2 => (Below.heap_setCell _ _ _ _ (fun e => by
    obtain ⟨l, hl, hl2⟩ := hg
    have e : b = g := e
    exact h2 l hl (by rw [hl2, e]))).trans (h.block b h1 h2)⟩
theorem RowsI.below {w w' : World} {B : Nat} {ls : List LI} (h : RowsI w B ls) (hb : Below w.heap.size w w') : RowsI w' B ls :=
  ⟨fun i l hl => row_kept' (h.own i l hl) fun k hk => hb.block k ((h.own i l hl).lt k hk).2, h.apart⟩
/-- As far as the marks are put. -/
structure PutTo (ls zs : List LI) (i j : Nat) : Prop where
  len : zs.length = ls.length
  like : ∀ (a : Nat) (z l : LI), zs[a]? = some z → ls[a]? = some l → z.A = l.A ∧ z.c = l.c ∧ z.xs.length = l.xs.length
  done : ∀ (a : Nat) (z : LI), zs[a]? = some z → a < i → z.xs = marksOf a 0 z.xs.length
  here : ∀ (z : LI), zs[i]? = some z → z.xs.take j = marksOf i 0 j
theorem PutTo.start (ls : List LI) : PutTo ls ls 0 0 := ⟨rfl, fun a z l h1 h2 => by rw [h1] at h2; cases h2; exact ⟨rfl, rfl, rfl⟩, fun a z _ h => by omega, fun z _ => by simp [marksOf]⟩
theorem PutTo.next {ls zs : List LI} {i n : Nat} (h : PutTo ls zs i n) (hn : ∀ z, zs[i]? = some z → z.xs.length = n) : PutTo ls zs (i + 1) 0 :=
  ⟨h.len, h.like, fun a z ha hi => by
    rcases Nat.lt_or_ge a i with h1 | h1
    · exact h.done a z ha h1
    · obtain rfl : a = i := by omega
      have := h.here z ha
      rw [List.take_of_length_le (by rw [hn z ha]; exact Nat.le_refl _)] at this
      rw [hn z ha]
      exact this, fun z _ => by simp [marksOf]⟩
theorem take_set_snoc {α : Type} (l : List α) (j : Nat) (x : α) (h : j < l.length) : (l.set j x).take (j + 1) = l.take j ++ [x] := by
  rw [List.take_succ_eq_append_getElem (by rw [List.length_set]; exact h), List.take_set_of_le (Nat.le_refl _), List.getElem_set_self]
def LI.put (l : LI) (j : Nat) (x : Int) : LI := ⟨l.A, l.c, l.xs.set j x⟩
theorem LI.put_val (l : LI) (j : Nat) (x : Int) : (l.put j x).val = l.val := by unfold LI.put LI.val; simp
theorem PutTo.step {ls zs : List LI} {i j : Nat} {z : LI} (h : PutTo ls zs i j) (hz : zs[i]? = some z) (hj : j < z.xs.length) : PutTo ls (zs.set i (z.put j (markAt i (0 + j)))) i (j + 1) := by
  have hil : i < zs.length := by
    rcases Nat.lt_or_ge i zs.length with h | h
    · exact h
    · rw [List.getElem?_eq_none h] at hz; cases hz
  refine ⟨by rw [List.length_set]; exact h.len, fun a y l hy hl => ?_, fun a y hy ha => ?_, fun y hy => ?_⟩
  · by_cases hai : a = i
    · subst hai
      rw [List.getElem?_set_self hil] at hy
      cases hy
      have := h.like a z l hz hl
      exact ⟨this.1, this.2.1, by unfold LI.put; simp only [List.length_set]; exact this.2.2⟩
    · rw [List.getElem?_set_ne (fun e => hai e.symm)] at hy
      exact h.like a y l hy hl
  · rw [List.getElem?_set_ne (by omega)] at hy
    exact h.done a y hy ha
  · rw [List.getElem?_set_self hil] at hy
    cases hy
    unfold LI.put
    simp only
    rw [take_set_snoc _ _ _ hj, h.here z hz, marksOf_snoc]
theorem RowsI.put {w : World} {B : Nat} {zs : List LI} {i j bi : Nat} {z : LI} {x : Int} (h : RowsI w B zs) (hz : zs[i]? = some z) (hb : z.A = some ⟨bi, 0, none⟩) : RowsI (w.setCell ⟨bi, j, none⟩ (.int .i64 x)) B (zs.set i (z.put j x)) := by
  have hil : i < zs.length := by
    rcases Nat.lt_or_ge i zs.length with h | h
    · exact h
    · rw [List.getElem?_eq_none h] at hz; cases hz
  have hob : z.val.ownBlock = some bi := by unfold LI.val; rw [hb]; rfl
  have get : ∀ (a : Nat) (l : LI), (zs.set i (z.put j x))[a]? = some l → ∃ l0, zs[a]? = some l0 ∧ l.val = l0.val ∧ ((a = i ∧ l = z.put j x) ∨ (a ≠ i ∧ l = l0)) := fun a l hl => by
    by_cases hai : a = i
    · subst hai
      rw [List.getElem?_set_self hil] at hl
      cases hl
      exact ⟨z, hz, LI.put_val _ _ _, .inl ⟨rfl, rfl⟩⟩
    · rw [List.getElem?_set_ne (fun e => hai e.symm)] at hl
      exact ⟨l, hl, rfl, .inr ⟨hai, rfl⟩⟩
  refine ⟨fun a l hl => ?_, fun a a' l l' b h1 h2 hne h3 => ?_⟩
  · obtain ⟨l0, h0, hv, ⟨rfl, rfl⟩ | ⟨hai, rfl⟩⟩ := get a l hl
    · rw [LI.put_val]
      have ho := h.own a z hz
      unfold LI.val at ho ⊢
      rw [hb] at ho ⊢
      have := krow_put ho (i := j) (.int .i64 x)
      unfold LI.put
      simp only [List.length_set, List.map_set]
      exact this
    · exact krow_far (h.own a l h0) (fun e => h.apart a i l z bi h0 hz hai e hob) _
  · obtain ⟨l0, h0, hv, -⟩ := get a l h1
    obtain ⟨l0', h0', hv', -⟩ := get a' l' h2
    rw [hv] at h3
    rw [hv']
    exact h.apart a a' l0 l0' b h0 h0' hne h3

end Go.Proofs.Ytbaanoomilohhaa
