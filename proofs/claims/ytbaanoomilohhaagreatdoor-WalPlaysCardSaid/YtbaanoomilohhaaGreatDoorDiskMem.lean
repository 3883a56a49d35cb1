/-
  How a disk lies in memory: its own block and the rows that it alone holds; what a call on one disk leaves of all else. No statement is proved here.
-/
import Derived.Test.YtbaanoomilohhaaGreatDoorProg
import Derived.Test.YtbaanoomilohhaaGreatDoorWords
import Derived.Test.YtbaanoomilohhaaGreatDoorRowOps
import Derived.Test.YtbaanoomilohhaaGreatDoorDiskPure
import Derived.Deep.AppendLies
namespace Go.Proofs.YtbaanoomilohhaaGreatDoor
open Go.RowKit

/-- All but the blocks of O is as it was. -/
structure Keep (O : List Nat) (w w' : World) : Prop where
  os : w'.os = w.os
  tape : w'.tape = w.tape
  output : w'.output = w.output
  size : w.heap.size ≤ w'.heap.size
  block : ∀ k, k < w.heap.size → k ∉ O → w'.heap[k]? = w.heap[k]?

section
variable {w w' w'' : World} {O O' : List Nat} {B : Nat}
theorem Keep.refl (O : List Nat) (w : World) : Keep O w w := ⟨rfl, rfl, rfl, Nat.le_refl _, fun _ _ _ => rfl⟩
theorem Keep.trans (h : Keep O w w') (k : Keep O' w' w'') (hO : ∀ b ∈ O', b ∈ O ∨ w.heap.size ≤ b) : Keep O w w'' :=
  ⟨k.os.trans h.os, k.tape.trans h.tape, k.output.trans h.output, Nat.le_trans h.size k.size, fun i hi hn => (k.block i (Nat.lt_of_lt_of_le hi h.size) (fun hm => by
    rcases hO i hm with h1 | h1
    · exact hn h1
    · omega)).trans (h.block i hi hn)⟩
theorem Keep.trans' (h : Keep O w w') (k : Keep O w' w'') : Keep O w w'' := h.trans k fun _ hb => .inl hb
theorem Keep.drew (h : Keep O w w') : Keep O w w'.drew := ⟨h.os, h.tape, h.output, h.size, h.block⟩
theorem Keep.drewN (h : Keep O w w') (n : Nat) : Keep O w (w'.drewN n) := ⟨h.os, h.tape, h.output, h.size, h.block⟩
theorem Keep.alloc (h : Keep O w w') (o : Obj) : Keep O w (w'.alloc o) :=
  h.trans (O' := []) ⟨rfl, rfl, rfl, by simp, fun k hk _ => Below.heap_alloc _ _ _ hk⟩ (by simp)
theorem Keep.put (h : Keep O w w') {g : Nat} (hg : g ∈ O ∨ w.heap.size ≤ g) (i : Nat) (u : Value) : Keep O w (w'.setCell ⟨g, i, none⟩ u) :=
  h.trans (O' := [g]) ⟨rfl, rfl, rfl, by simp [World.setCell], fun k _ hn => Below.heap_setCell _ _ _ _ (fun e => hn (by simpa using e))⟩ (by simpa using hg)
theorem Keep.below_in (h : Keep O w w') (k : Below w'.heap.size w' w'') : Keep O w w'' :=
  h.trans (O' := []) ⟨k.os, k.tape, k.output, k.size, fun i hi _ => k.block i hi⟩ (by simp)
theorem Keep.of_below (k : Below w.heap.size w w') : Keep O w w' := (Keep.refl O w).below_in k
theorem Keep.by_in (h : Keep O w w') {row : Option Nat} (k : w'.grownBy w'' row) (hr : ∀ g, row = some g → g ∈ O ∨ w.heap.size ≤ g) : Keep O w w'' :=
  h.trans (O' := row.toList) ⟨k.os, k.tape, k.output, k.size, fun i hi hn => k.block i hi (fun e => hn (by rw [← e]; simp))⟩ (by intro b hb; exact hr b (by simpa using hb))
/-- As seen from a base below all of O. -/
theorem Keep.below (h : Keep O w w') (hO : ∀ b ∈ O, B ≤ b) (hB : B ≤ w.heap.size) : Below B w w' :=
  ⟨h.os, h.tape, h.output, h.size, fun i hi => h.block i (by omega) (fun hm => by have := hO i hm; omega)⟩
theorem Below.keep_new {w0 : World} (h : Below w0.heap.size w0 w) (k : Keep O w w') (hO : ∀ b ∈ O, w0.heap.size ≤ b) : Below w0.heap.size w0 w' := h.trans (k.below hO h.size)
theorem Keep.mono (h : Keep O w w') (hO : ∀ b ∈ O, b ∈ O' ∨ w.heap.size ≤ b) : Keep O' w w' :=
  ⟨h.os, h.tape, h.output, h.size, fun i hi hn => h.block i hi (fun hm => by
    rcases hO i hm with h1 | h1
    · exact hn h1
    · omega)⟩
end

section
variable {w w' : World} {base : Nat} {e : TypeId} {size : Nat} {v : Value} {n : Nat} {xs : List Value} {O : List Nat}
/-- A row depends on its block alone. -/
theorem row_kept (h : w.ownsRow base e size v n xs) (hb : ∀ k, v.ownBlock = some k → w'.heap[k]? = w.heap[k]?) : w'.ownsRow base e size v n xs := by
  refine ⟨h.1, ?_⟩
  rcases h.2 with hn | ⟨g, cap, cur, rfl, hb1, hgg, rest⟩
  · exact .inl hn
  · exact .inr ⟨g, cap, cur, rfl, hb1, by rw [hb g rfl]; exact hgg, rest⟩
theorem row_keep (h : w.ownsRow base e size v n xs) (hk : Keep O w w') (ha : ∀ k, v.ownBlock = some k → k ∉ O) : w'.ownsRow base e size v n xs :=
  row_kept h fun k hv => hk.block k (h.lt k hv).2 (ha k hv)
theorem row_slice (h : w.ownsRow base e size v n xs) : ∃ p cap, v = .slice p n cap ∧ n ≤ cap ∧ cap ≤ 9223372036854775807 ∧ (p = none → n = 0) ∧ (∀ a, p = some a → a = ⟨a.block, 0, none⟩) := by
  rcases h.2 with ⟨rfl, rfl⟩ | ⟨g, cap, cur, rfl, _, _, h1, h2, _⟩
  · exact ⟨none, 0, rfl, by omega, by omega, fun _ => rfl, fun _ h => by cases h⟩
  · exact ⟨some ⟨g, 0, none⟩, cap, rfl, h1, by simpa [maxLen] using h2, (fun h => by cases h), fun a h => by cases h; rfl⟩
theorem row_cell {g cap : Nat} (h : w.ownsRow base e size (.slice (some ⟨g, 0, none⟩) n cap) n xs) {i : Nat} {u : Value} (hi : xs[i]? = some u) : w.cell? ⟨g, i, none⟩ = some u := by
  have := h.cells (g := g) rfl i u hi
  rwa [add_off, Nat.zero_add] at this
theorem row_frozen {g cap : Nat} (h : w.ownsRow base e size (.slice (some ⟨g, 0, none⟩) n cap) n xs) (i : Nat) : w.frozen? ⟨g, i, none⟩ = false := by
  rcases h.2 with ⟨h, _⟩ | ⟨g', cap', cur, h, _, hg, _⟩
  · cases h
  · injection h with h1 _ _
    injection h1 with h1
    injection h1 with h1 _ _
    subst h1
    exact Blk.frozen (show Blk w g e cur from hg) i
/-- A cell of a row written. -/
theorem row_put {g cap : Nat} (h : w.ownsRow base e 1 (.slice (some ⟨g, 0, none⟩) n cap) n xs) {i : Nat} (u : Value) : (w.setCell ⟨g, i, none⟩ u).ownsRow base e 1 (.slice (some ⟨g, 0, none⟩) n cap) n (xs.set i u) := by
  refine ⟨by rw [List.length_set]; exact h.1, ?_⟩
  rcases h.2 with ⟨h, _⟩ | ⟨g', cap', cur, h, hb, hg, h1, h2, h3, h4⟩
  · cases h
  · injection h with e1 _ e3
    injection e1 with e1
    injection e1 with e1 _ _
    subst e1 e3
    refine .inr ⟨g, cap, cur.setIfInBounds i u, rfl, hb, Blk.put (show Blk w g e cur from hg) i u, h1, h2, by rw [Array.size_setIfInBounds]; exact h3, ?_⟩
    rw [Array.toList_setIfInBounds, ← h4, List.take_set]
theorem row_far {p : Addr} (h : w.ownsRow base e size v n xs) (hp : v.ownBlock ≠ some p.block) (u : Value) : (w.setCell p u).ownsRow base e size v n xs :=
  row_kept h fun k hk => Below.heap_setCell _ _ _ _ (fun e => hp (by rw [hk, e]))
end

/-- Writes, as cells. -/
def flatW (l : List (Nat × ByteArray)) : List Value := l.flatMap fun x => [.int .i64 ((x.1 : Nat) : Int), .string x.2]
theorem flatW_snoc (l : List (Nat × ByteArray)) (x : Nat × ByteArray) : flatW (l ++ [x]) = flatW l ++ [.int .i64 ((x.1 : Nat) : Int), .string x.2] := by simp [flatW]
theorem flatW_len (l : List (Nat × ByteArray)) : (flatW l).length = l.length * 2 := by
  induction l with
  | nil => rfl
  | cons x r ih => show (_ :: _ :: flatW r).length = _; rw [List.length_cons, List.length_cons, ih, List.length_cons]; omega
theorem flatW_get {l : List (Nat × ByteArray)} {j : Nat} {x : Nat × ByteArray} (h : l[j]? = some x) : (flatW l)[2 * j]? = some (.int .i64 ((x.1 : Nat) : Int)) ∧ (flatW l)[2 * j + 1]? = some (.string x.2) := by
  induction l generalizing j with
  | nil => cases h
  | cons y r ih =>
    have e : flatW (y :: r) = .int .i64 ((y.1 : Nat) : Int) :: .string y.2 :: flatW r := rfl
    rw [e]
    cases j with
    | zero =>
      rw [List.getElem?_cons_zero] at h
      injection h with h
      subst h
      exact ⟨rfl, rfl⟩
    | succ j =>
      rw [List.getElem?_cons_succ] at h
      have := ih h
      rw [show 2 * (j + 1) = (2 * j + 1) + 1 by omega, show (2 * j + 1) + 1 + 1 = (2 * j + 1 + 1) + 1 by omega]
      simp only [List.getElem?_cons_succ]
      exact this

/-- The disk in block g: S, its rows and their room. -/
structure DiskIs (w : World) (g gn gs cn cs : Nat) (vd vk : Value) (S : DS) : Prop where
  blk : Blk w g 59 #[.slice (some ⟨gn, 0, none⟩) S.now.length cn, .slice (some ⟨gs, 0, none⟩) S.safe.length cs, vd, .bool S.on, .int .i64 (S.writes : Int), .bool S.armed, .int .i64 (S.left : Int), vk]
  now : w.ownsRow 0 9 1 (.slice (some ⟨gn, 0, none⟩) S.now.length cn) S.now.length (S.now.map Value.string)
  safe : w.ownsRow 0 9 1 (.slice (some ⟨gs, 0, none⟩) S.safe.length cs) S.safe.length (S.safe.map Value.string)
  dirty : w.ownsRow 0 39 2 vd S.dirty.length (flatW S.dirty)
  keep : w.ownsRow 0 3 1 vk S.keep.length (S.keep.map (Value.int .i64))
  apart : (g :: gn :: gs :: (vd.ownBlock.toList ++ vk.ownBlock.toList)).Nodup
/-- .. with the blocks that it holds. -/
def DiskAt (w : World) (O : List Nat) (g : Nat) (S : DS) : Prop :=
  ∃ gn gs cn cs vd vk, O = g :: gn :: gs :: (vd.ownBlock.toList ++ vk.ownBlock.toList) ∧ DiskIs w g gn gs cn cs vd vk S
/-- What a call leaves that works on one disk. -/
def Turns (O : List Nat) (g : Nat) (S : DS) (w w' : World) : Prop := ∃ O', DiskAt w' O' g S ∧ (∀ b ∈ O', b ∈ O ∨ w.heap.size ≤ b) ∧ Keep O w w'

section
variable {w w' w'' : World} {O O2 : List Nat} {g gn gs cn cs : Nat} {vd vk : Value} {S S' : DS}
theorem row_lt' {B : Nat} {e : TypeId} {size n : Nat} {v : Value} {xs : List Value} (h : w.ownsRow B e size v n xs) {b : Nat} (hb : b ∈ v.ownBlock.toList) : b < w.heap.size := (h.lt b (by simpa using hb)).2
theorem DiskIs.lt (h : DiskIs w g gn gs cn cs vd vk S) {b : Nat} (hb : b ∈ g :: gn :: gs :: (vd.ownBlock.toList ++ vk.ownBlock.toList)) : b < w.heap.size := by
  simp only [List.mem_cons, List.mem_append] at hb
  rcases hb with rfl | rfl | rfl | hb | hb
  · exact h.blk.lt
  · exact row_lt' h.now (by simp [Value.ownBlock])
  · exact row_lt' h.safe (by simp [Value.ownBlock])
  · exact row_lt' h.dirty hb
  · exact row_lt' h.keep hb
theorem DiskAt.lt (h : DiskAt w O g S) {b : Nat} (hb : b ∈ O) : b < w.heap.size := by
  obtain ⟨gn, gs, cn, cs, vd, vk, rfl, h⟩ := h
  exact h.lt hb
theorem DiskIs.kept (h : DiskIs w g gn gs cn cs vd vk S) (hk : ∀ b ∈ g :: gn :: gs :: (vd.ownBlock.toList ++ vk.ownBlock.toList), w'.heap[b]? = w.heap[b]?) : DiskIs w' g gn gs cn cs vd vk S where
  blk := (hk g (by simp)).trans h.blk
  now := row_kept h.now fun k e => hk k (by cases e; simp)
  safe := row_kept h.safe fun k e => hk k (by cases e; simp)
  dirty := row_kept h.dirty fun k e => hk k (by simp [e])
  keep := row_kept h.keep fun k e => hk k (by simp [e])
  apart := h.apart
theorem DiskAt.kept (h : DiskAt w O g S) (hk : ∀ b ∈ O, w'.heap[b]? = w.heap[b]?) : DiskAt w' O g S := by
  obtain ⟨gn, gs, cn, cs, vd, vk, rfl, h⟩ := h
  exact ⟨gn, gs, cn, cs, vd, vk, rfl, h.kept hk⟩
/-- Another disk stays. -/
theorem DiskAt.far (h : DiskAt w O g S) (hk : Keep O2 w w') (ha : ∀ b ∈ O, b ∉ O2) : DiskAt w' O g S := h.kept fun b hb => hk.block b (h.lt hb) (ha b hb)
theorem DiskAt.below (h : DiskAt w O g S) (hb : Below w.heap.size w w') : DiskAt w' O g S := h.kept fun b hb' => hb.block b (h.lt hb')
theorem DiskAt.mem (h : DiskAt w O g S) : g ∈ O := by
  obtain ⟨gn, gs, cn, cs, vd, vk, rfl, h⟩ := h
  simp
theorem Turns.refl (h : DiskAt w O g S) : Turns O g S w w := ⟨O, h, fun _ hb => .inl hb, Keep.refl _ _⟩
theorem Turns.of_below (h : DiskAt w O g S) (hb : Below w.heap.size w w') : Turns O g S w w' := ⟨O, h.below hb, fun _ hb => .inl hb, Keep.of_below hb⟩
theorem Turns.at (h : Turns O g S w w') : ∃ O', DiskAt w' O' g S := ⟨_, h.choose_spec.1⟩
theorem Turns.trans {w0 : World} (h : Turns O g S w0 w) (k : ∀ O', DiskAt w O' g S → Turns O' g S' w w') : Turns O g S' w0 w' := by
  obtain ⟨O1, h1, h2, h3⟩ := h
  obtain ⟨O3, k1, k2, k3⟩ := k O1 h1
  refine ⟨O3, k1, fun b hb => ?_, h3.trans k3 h2⟩
  rcases k2 b hb with hb | hb
  · exact h2 b hb
  · have := h3.size
    omega
theorem Turns.below_in (h : Turns O g S w w') (hb : Below w'.heap.size w' w'') : Turns O g S w w'' := h.trans fun _ h' => Turns.of_below h' hb
theorem Turns.after {w0 : World} (hb : Below w0.heap.size w0 w) (h : Turns O g S w w') : Turns O g S w0 w' := by
  obtain ⟨O1, h1, h2, h3⟩ := h
  refine ⟨O1, h1, fun b hb1 => ?_, (Keep.of_below hb).trans h3 (fun _ hb => .inl hb)⟩
  rcases h2 b hb1 with h2 | h2
  · exact .inl h2
  · have := hb.size
    exact .inr (by omega)
end
end Go.Proofs.YtbaanoomilohhaaGreatDoor
