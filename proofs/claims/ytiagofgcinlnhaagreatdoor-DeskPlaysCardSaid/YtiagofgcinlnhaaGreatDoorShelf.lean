/-
  The library's contracts that this seat's proofs use, laid at this dump in plain words: the shelf's theorems over any program, at the numbers of this one.
-/
import Derived.Test.YtiagofgcinlnhaaGreatDoorProg
import Derived.Test.YtiagofgcinlnhaaGreatDoorDiskPure
import Derived.Deep.AppendLies
import Derived.Lib.Strings
import Derived.WalkKit
import Derived.Shelf.Strings.BuilderK
import Derived.Shelf.LaysM
import Derived.Shelf.Strconv.Clone
import Derived.Shelf.Strings.Repeat
namespace Go.Proofs.YtiagofgcinlnhaaGreatDoor
open Go.RowKit
structure Keep (O : List Nat) (w w' : World) : Prop where
  os : w'.os = w.os
  tape : w'.tape = w.tape
  output : w'.output = w.output
  size : w.heap.size ≤ w'.heap.size
  block : ∀ k, k < w.heap.size → k ∉ O → w'.heap[k]? = w.heap[k]?
section
variable {w w' w'' : World} {O O' : List Nat} {B : Nat}
theorem Keep.refl (O : List Nat) (w : World) : Keep O w w := ⟨rfl, rfl, rfl, Nat.le_refl _, fun _ _ _ => rfl⟩
theorem Keep.trans (h : Keep O w w') (k : Keep O' w' w'') (hO : ∀ b ∈ O', b ∈ O ∨ w.heap.size ≤ b) : Keep O w w'' :=
  ⟨k.os.trans h.os, k.tape.trans h.tape, k.output.trans h.output, Nat.le_trans h.size k.size, fun i hi hn => (k.block i (Nat.lt_of_lt_of_le hi h.size) (fun hm => by
    rcases hO i hm with h1 | h1
    · exact hn h1
    · omega)).trans (h.block i hi hn)⟩
theorem Keep.trans' (h : Keep O w w') (k : Keep O w' w'') : Keep O w w'' := h.trans k fun _ hb => .inl hb
theorem Keep.drew (h : Keep O w w') : Keep O w w'.drew := ⟨h.os, h.tape, h.output, h.size, h.block⟩
theorem Keep.drewN (h : Keep O w w') (n : Nat) : Keep O w (w'.drewN n) := ⟨h.os, h.tape, h.output, h.size, h.block⟩
theorem Keep.alloc (h : Keep O w w') (o : Obj) : Keep O w (w'.alloc o) :=
  h.trans (O' := []) ⟨rfl, rfl, rfl, by simp, fun k hk _ => Below.heap_alloc _ _ _ hk⟩ (by simp)
theorem Keep.put (h : Keep O w w') {g : Nat} (hg : g ∈ O ∨ w.heap.size ≤ g) (i : Nat) (u : Value) : Keep O w (w'.setCell ⟨g, i, none⟩ u) :=
  h.trans (O' := [g]) ⟨rfl, rfl, rfl, by simp [World.setCell], fun k _ hn => Below.heap_setCell _ _ _ _ (fun e => hn (by simpa using e))⟩ (by simpa using hg)
theorem Keep.below_in (h : Keep O w w') (k : Below w'.heap.size w' w'') : Keep O w w'' :=
  h.trans (O' := []) ⟨k.os, k.tape, k.output, k.size, fun i hi _ => k.block i hi⟩ (by simp)
theorem Keep.of_below (k : Below w.heap.size w w') : Keep O w w' := (Keep.refl O w).below_in k
theorem Keep.by_in (h : Keep O w w') {row : Option Nat} (k : w'.grownBy w'' row) (hr : ∀ g, row = some g → g ∈ O ∨ w.heap.size ≤ g) : Keep O w w'' :=
  h.trans (O' := row.toList) ⟨k.os, k.tape, k.output, k.size, fun i hi hn => k.block i hi (fun e => hn (by rw [← e]; simp))⟩ (by intro b hb; exact hr b (by simpa using hb))
theorem Keep.below (h : Keep O w w') (hO : ∀ b ∈ O, B ≤ b) (hB : B ≤ w.heap.size) : Below B w w' :=
  ⟨h.os, h.tape, h.output, h.size, fun i hi => h.block i (by omega) (fun hm => by have := hO i hm; omega)⟩
theorem Keep.mono (h : Keep O w w') (hO : ∀ b ∈ O, b ∈ O' ∨ w.heap.size ≤ b) : Keep O' w w' :=
  ⟨h.os, h.tape, h.output, h.size, fun i hi hn => h.block i hi (fun hm => by
    rcases hO i hm with h1 | h1
    · exact hn h1
    · omega)⟩
end
section
variable {w w' : World} {base : Nat} {e : TypeId} {size : Nat} {v : Value} {n : Nat} {xs : List Value} {O : List Nat}
theorem row_kept (h : w.ownsRow base e size v n xs) (hb : ∀ k, v.ownBlock = some k → w'.heap[k]? = w.heap[k]?) : w'.ownsRow base e size v n xs := by
  refine ⟨h.1, ?_⟩
  rcases h.2 with hn | ⟨g, cap, cur, rfl, hb1, hgg, rest⟩
  · exact .inl hn
  · exact .inr ⟨g, cap, cur, rfl, hb1, by rw [hb g rfl]; exact hgg, rest⟩
theorem row_keep (h : w.ownsRow base e size v n xs) (hk : Keep O w w') (ha : ∀ k, v.ownBlock = some k → k ∉ O) : w'.ownsRow base e size v n xs :=
  row_kept h fun k hv => hk.block k (h.lt k hv).2 (ha k hv)
theorem row_slice (h : w.ownsRow base e size v n xs) : ∃ p cap, v = .slice p n cap ∧ n ≤ cap ∧ cap ≤ 9223372036854775807 ∧ (p = none → n = 0) ∧ (∀ a, p = some a → a = ⟨a.block, 0, none⟩) := by
  rcases h.2 with ⟨rfl, rfl⟩ | ⟨g, cap, cur, rfl, _, _, h1, h2, _⟩
  · exact ⟨none, 0, rfl, by omega, by omega, fun _ => rfl, fun _ h => by cases h⟩
  · exact ⟨some ⟨g, 0, none⟩, cap, rfl, h1, by simpa [maxLen] using h2, (fun h => by cases h), fun a h => by cases h; rfl⟩
theorem row_cell {g cap : Nat} (h : w.ownsRow base e size (.slice (some ⟨g, 0, none⟩) n cap) n xs) {i : Nat} {u : Value} (hi : xs[i]? = some u) : w.cell? ⟨g, i, none⟩ = some u := by
  have := h.cells (g := g) rfl i u hi
  rwa [add_off, Nat.zero_add] at this
theorem row_frozen {g cap : Nat} (h : w.ownsRow base e size (.slice (some ⟨g, 0, none⟩) n cap) n xs) (i : Nat) : w.frozen? ⟨g, i, none⟩ = false := by
  rcases h.2 with ⟨h, _⟩ | ⟨g', cap', cur, h, _, hg, _⟩
  · cases h
  · injection h with h1 _ _
    injection h1 with h1
    injection h1 with h1 _ _
    subst h1
    exact Blk.frozen (show Blk w g e cur from hg) i
theorem row_put {g cap : Nat} (h : w.ownsRow base e 1 (.slice (some ⟨g, 0, none⟩) n cap) n xs) {i : Nat} (u : Value) : (w.setCell ⟨g, i, none⟩ u).ownsRow base e 1 (.slice (some ⟨g, 0, none⟩) n cap) n (xs.set i u) := by
  refine ⟨by rw [List.length_set]; exact h.1, ?_⟩
  rcases h.2 with ⟨h, _⟩ | ⟨g', cap', cur, h, hb, hg, h1, h2, h3, h4⟩
  · cases h
  · injection h with e1 _ e3
    injection e1 with e1
    injection e1 with e1 _ _
    subst e1 e3
    refine .inr ⟨g, cap, cur.setIfInBounds i u, rfl, hb, Blk.put (show Blk w g e cur from hg) i u, h1, h2, by rw [Array.size_setIfInBounds]; exact h3, ?_⟩
    rw [Array.toList_setIfInBounds, ← h4, List.take_set]
theorem row_far {p : Addr} (h : w.ownsRow base e size v n xs) (hp : v.ownBlock ≠ some p.block) (u : Value) : (w.setCell p u).ownsRow base e size v n xs :=
  row_kept h fun k hk => Below.heap_setCell _ _ _ _ (fun e => hp (by rw [hk, e]))
end
def flatW (l : List (Nat × ByteArray)) : List Value := l.flatMap fun x => [.int .i64 ((x.1 : Nat) : Int), .string x.2]
theorem flatW_snoc (l : List (Nat × ByteArray)) (x : Nat × ByteArray) : flatW (l ++ [x]) = flatW l ++ [.int .i64 ((x.1 : Nat) : Int), .string x.2] := by simp [flatW]
theorem flatW_get {l : List (Nat × ByteArray)} {j : Nat} {x : Nat × ByteArray} (h : l[j]? = some x) : (flatW l)[2 * j]? = some (.int .i64 ((x.1 : Nat) : Int)) ∧ (flatW l)[2 * j + 1]? = some (.string x.2) := by
  induction l generalizing j with
  | nil => cases h
  | cons y r ih =>
    have e : flatW (y :: r) = .int .i64 ((y.1 : Nat) : Int) :: .string y.2 :: flatW r := rfl
    rw [e]
    cases j with
    | zero =>
      rw [List.getElem?_cons_zero] at h
      injection h with h
      subst h
      exact ⟨rfl, rfl⟩
    | succ j =>
      rw [List.getElem?_cons_succ] at h
      have := ih h
      rw [show 2 * (j + 1) = (2 * j + 1) + 1 by omega, show (2 * j + 1) + 1 + 1 = (2 * j + 1 + 1) + 1 by omega]
      simp only [List.getElem?_cons_succ]
      exact this
structure DiskIs (w : World) (g gn gs cn cs : Nat) (vd vk : Value) (S : DS) : Prop where
  blk : Blk w g 75 #[.slice (some ⟨gn, 0, none⟩) S.now.length cn, .slice (some ⟨gs, 0, none⟩) S.safe.length cs, vd, .bool S.on, .int .i64 (S.writes : Int), .bool S.armed, .int .i64 (S.left : Int), vk]
  now : w.ownsRow 0 9 1 (.slice (some ⟨gn, 0, none⟩) S.now.length cn) S.now.length (S.now.map Value.string)
  safe : w.ownsRow 0 9 1 (.slice (some ⟨gs, 0, none⟩) S.safe.length cs) S.safe.length (S.safe.map Value.string)
  dirty : w.ownsRow 0 90 2 vd S.dirty.length (flatW S.dirty)
  keep : w.ownsRow 0 3 1 vk S.keep.length (S.keep.map (Value.int .i64))
  apart : (g :: gn :: gs :: (vd.ownBlock.toList ++ vk.ownBlock.toList)).Nodup
def DiskAt (w : World) (O : List Nat) (g : Nat) (S : DS) : Prop :=
  ∃ gn gs cn cs vd vk, O = g :: gn :: gs :: (vd.ownBlock.toList ++ vk.ownBlock.toList) ∧ DiskIs w g gn gs cn cs vd vk S
def Turns (O : List Nat) (g : Nat) (S : DS) (w w' : World) : Prop := ∃ O', DiskAt w' O' g S ∧ (∀ b ∈ O', b ∈ O ∨ w.heap.size ≤ b) ∧ Keep O w w'
section
variable {w w' w'' : World} {O O2 : List Nat} {g gn gs cn cs : Nat} {vd vk : Value} {S S' : DS}
theorem row_lt' {B : Nat} {e : TypeId} {size n : Nat} {v : Value} {xs : List Value} (h : w.ownsRow B e size v n xs) {b : Nat} (hb : b ∈ v.ownBlock.toList) : b < w.heap.size := (h.lt b (by simpa using hb)).2
theorem DiskIs.lt (h : DiskIs w g gn gs cn cs vd vk S) {b : Nat} (hb : b ∈ g :: gn :: gs :: (vd.ownBlock.toList ++ vk.ownBlock.toList)) : b < w.heap.size := by
  simp only [List.mem_cons, List.mem_append] at hb
  rcases hb with rfl | rfl | rfl | hb | hb
  · exact h.blk.lt
  · exact row_lt' h.now (by simp [Value.ownBlock])
  · exact row_lt' h.safe (by simp [Value.ownBlock])
  · exact row_lt' h.dirty hb
  · exact row_lt' h.keep hb
theorem DiskAt.lt (h : DiskAt w O g S) {b : Nat} (hb : b ∈ O) : b < w.heap.size := by
  obtain ⟨gn, gs, cn, cs, vd, vk, rfl, h⟩ := h
  exact h.lt hb
theorem DiskIs.kept (h : DiskIs w g gn gs cn cs vd vk S) (hk : ∀ b ∈ g :: gn :: gs :: (vd.ownBlock.toList ++ vk.ownBlock.toList), w'.heap[b]? = w.heap[b]?) : DiskIs w' g gn gs cn cs vd vk S where
  blk := (hk g (by simp)).trans h.blk
  now := row_kept h.now fun k e => hk k (by cases e; simp)
  safe := row_kept h.safe fun k e => hk k (by cases e; simp)
  dirty := row_kept h.dirty fun k e => hk k (by simp [e])
  keep := row_kept h.keep fun k e => hk k (by simp [e])
  apart := h.apart
theorem DiskAt.kept (h : DiskAt w O g S) (hk : ∀ b ∈ O, w'.heap[b]? = w.heap[b]?) : DiskAt w' O g S := by
  obtain ⟨gn, gs, cn, cs, vd, vk, rfl, h⟩ := h
  exact ⟨gn, gs, cn, cs, vd, vk, rfl, h.kept hk⟩
theorem DiskAt.far (h : DiskAt w O g S) (hk : Keep O2 w w') (ha : ∀ b ∈ O, b ∉ O2) : DiskAt w' O g S := h.kept fun b hb => hk.block b (h.lt hb) (ha b hb)
theorem DiskAt.below (h : DiskAt w O g S) (hb : Below w.heap.size w w') : DiskAt w' O g S := h.kept fun b hb' => hb.block b (h.lt hb')
theorem DiskAt.mem (h : DiskAt w O g S) : g ∈ O := by
  obtain ⟨gn, gs, cn, cs, vd, vk, rfl, h⟩ := h
  simp
theorem Turns.refl (h : DiskAt w O g S) : Turns O g S w w := ⟨O, h, fun _ hb => .inl hb, Keep.refl _ _⟩
theorem Turns.of_below (h : DiskAt w O g S) (hb : Below w.heap.size w w') : Turns O g S w w' := ⟨O, h.below hb, fun _ hb => .inl hb, Keep.of_below hb⟩
theorem Turns.at (h : Turns O g S w w') : ∃ O', DiskAt w' O' g S := ⟨_, h.choose_spec.1⟩
theorem Turns.trans {w0 : World} (h : Turns O g S w0 w) (k : ∀ O', DiskAt w O' g S → Turns O' g S' w w') : Turns O g S' w0 w' := by
  obtain ⟨O1, h1, h2, h3⟩ := h
  obtain ⟨O3, k1, k2, k3⟩ := k O1 h1
  refine ⟨O3, k1, fun b hb => ?_, h3.trans k3 h2⟩
  rcases k2 b hb with hb | hb
  · exact h2 b hb
  · have := h3.size
    omega
theorem Turns.below_in (h : Turns O g S w w') (hb : Below w'.heap.size w' w'') : Turns O g S w w'' := h.trans fun _ h' => Turns.of_below h' hb
theorem Turns.after {w0 : World} (hb : Below w0.heap.size w0 w) (h : Turns O g S w w') : Turns O g S w0 w' := by
  obtain ⟨O1, h1, h2, h3⟩ := h
  refine ⟨O1, h1, fun b hb1 => ?_, (Keep.of_below hb).trans h3 (fun _ hb => .inl hb)⟩
  rcases h2 b hb1 with h2 | h2
  · exact .inl h2
  · have := hb.size
    exact .inr (by omega)
end
def Txts (w : World) (B : Nat) (A : Option Addr) (xs : List ByteArray) : Prop :=
  0 < xs.length → ∃ b off, A = some ⟨b, off, none⟩ ∧ b < B ∧ ∀ (j : Nat) (x : ByteArray), xs[j]? = some x → w.cell? ⟨b, off + j, none⟩ = some (.string x)
theorem Txts.nil (w : World) (B : Nat) (A : Option Addr) : Txts w B A [] := fun h => absurd h (by simp)
theorem Txts.more {w : World} {B B' : Nat} {A : Option Addr} {xs : List ByteArray} (h : Txts w B A xs) (hB : B ≤ B') : Txts w B' A xs := fun hp => by
  obtain ⟨b, off, e, hb, hc⟩ := h hp
  exact ⟨b, off, e, by omega, hc⟩
theorem Txts.keep {w w' : World} {B : Nat} {A : Option Addr} {xs : List ByteArray} (h : Txts w B A xs) (hk : ∀ p : Addr, p.block < B → w'.cell? p = w.cell? p) : Txts w' B A xs := by
  intro hp
  obtain ⟨b, off, e, hb, hc⟩ := h hp
  exact ⟨b, off, e, hb, fun j x hx => (hk _ hb).trans (hc j x hx)⟩
theorem Txts.below {w w' : World} {B : Nat} {A : Option Addr} {xs : List ByteArray} (h : Txts w B A xs) (hb : Below B w w') : Txts w' B A xs := h.keep fun _ hp => hb.cell hp
def cats (l : List ByteArray) : List UInt8 := l.flatMap fun t => t.data.toList
theorem cats_snoc {l : List ByteArray} {j : Nat} {x : ByteArray} (h : l[j]? = some x) : cats (l.take (j + 1)) = cats (l.take j) ++ x.data.toList := by
  rw [List.take_add_one, h]; simp [cats]
theorem cats_len {l : List ByteArray} {j : Nat} {x : ByteArray} (h : l[j]? = some x) : (cats (l.take j)).length + x.size ≤ (cats l).length := by
  have e : cats l = cats (l.take (j + 1)) ++ cats (l.drop (j + 1)) := by unfold cats; rw [← List.flatMap_append, List.take_append_drop]
  rw [e, cats_snoc h, List.length_append, List.length_append, Lib.size_eq]
  omega
theorem txts_new (w : World) (xs : List ByteArray) : Txts (w.alloc (.cells (xs.map Value.string).toArray 9)) (w.alloc (.cells (xs.map Value.string).toArray 9)).heap.size (some ⟨w.heap.size, 0, none⟩) xs := by
  intro _
  refine ⟨w.heap.size, 0, rfl, by simp, fun j x hx => ?_⟩
  have := (Blk.new w 9 (xs.map Value.string).toArray).cell (0 + j)
  rw [this]
  simp [hx]
theorem txts_at (w : World) (cs : Array Value) (xs : List ByteArray) (g : Nat) (hg : w.heap.size = g) (hcs : cs = (xs.map Value.string).toArray) :
    Txts (w.alloc (.cells cs 9)) (w.alloc (.cells cs 9)).heap.size (some ⟨g, 0, none⟩) xs := by
  subst hg; subst hcs
  exact txts_new w xs
def TextsFit (xs : List ByteArray) : Prop := xs.length ≤ 1000 ∧ ∀ x ∈ xs, x.size ≤ 100000
theorem cats_bound (xs : List ByteArray) (B : Nat) (h : ∀ x ∈ xs, x.size ≤ B) : (cats xs).length ≤ xs.length * B := by
  induction xs with
  | nil => simp [cats]
  | cons x l ih =>
    have h1 := ih (fun y hy => h y (by simp [hy]))
    have h2 := h x (by simp)
    have e : cats (x :: l) = x.data.toList ++ cats l := by simp [cats]
    rw [e, List.length_append, List.length_cons, Nat.add_mul, ← Lib.size_eq]
    omega
theorem cats_one (x : ByteArray) : cats [x] = x.data.toList := by simp [cats]
structure Rd where
  b : ByteArray
  e : Int
def Rd.fail (s : Rd) (c : Int) : Rd := if s.e = 0 then ⟨.empty, c⟩ else s
def Rd.take (s : Rd) (n : Int) : ByteArray × Bool × Rd :=
  if s.e ≠ 0 then (.empty, false, s)
  else if n < 0 then (.empty, false, ⟨.empty, 1⟩)
  else if (s.b.size : Int) < n then (.empty, false, ⟨.empty, 5⟩)
  else (s.b.extract 0 n.toNat, true, ⟨s.b.extract n.toNat s.b.size, 0⟩)
def low : List UInt8 → Nat
  | [] => 0
  | x :: l => x.toNat + 256 * low l
def Rd.num (s : Rd) (k : Nat) : Int × Rd :=
  if (s.take k).2.1 = true then
    (if 9223372036854775807 < (low (s.take k).1.data.toList : Int) then (0, ⟨.empty, 6⟩) else ((low (s.take k).1.data.toList : Int), (s.take k).2.2))
  else (0, (s.take k).2.2)
def Rd.raw (s : Rd) (n : Int) : ByteArray × Rd := ((s.take n).1, (s.take n).2.2)
def Rd.text (s : Rd) : ByteArray × Rd := (s.num 2).2.raw (s.num 2).1
def Rd.rest (s : Rd) : Bool := (s.e == 0) && s.b.data.toList.all (· == 0)
def Rd.fin (s : Rd) : Int × Rd := if s.rest = true then (s.e, s) else ((s.fail 6).e, s.fail 6)
def Rd.ok (s : Rd) : Prop := s.e ≠ 0 → s.b = .empty
theorem low_lt (l : List UInt8) : low l < 256 ^ l.length := by
  induction l with
  | nil => simp [low]
  | cons x l ih =>
    have := x.toNat_lt
    simp only [low, List.length_cons, Nat.pow_succ]
    omega
theorem low_snoc (l : List UInt8) (x : UInt8) : low (l ++ [x]) = low l + x.toNat * 256 ^ l.length := by
  induction l with
  | nil => simp [low]
  | cons y l ih =>
    simp only [List.cons_append, low, ih, List.length_cons, Nat.pow_succ]
    have : 256 * (x.toNat * 256 ^ l.length) = x.toNat * (256 ^ l.length * 256) := by
      rw [Nat.mul_comm 256, Nat.mul_assoc]
    omega
theorem Rd.ok_fail {s : Rd} (h : s.ok) (c : Int) : (s.fail c).ok := by
  unfold Rd.fail; split
  · intro _; rfl
  · exact h
theorem Rd.size_take (s : Rd) (n : Int) : (s.take n).2.2.b.size ≤ s.b.size ∧ (s.take n).1.size ≤ s.b.size := by
  unfold Rd.take; split
  · simp
  · split
    · simp
    · split
      · simp
      · simp
        omega
theorem Rd.size_num (s : Rd) (k : Nat) : (s.num k).2.b.size ≤ s.b.size := by
  unfold Rd.num; split
  · split
    · simp
    · exact (s.size_take k).1
  · exact (s.size_take k).1
theorem Rd.num_range (s : Rd) (k : Nat) : 0 ≤ (s.num k).1 ∧ (s.num k).1 ≤ 9223372036854775807 := by
  unfold Rd.num; split
  · split
    · simp
    · exact ⟨by simp, by simp; omega⟩
  · simp
theorem low_or (l : List UInt8) (x : UInt8) (j : Nat) (hl : l.length = j) (hj : j < 8) :
    bits .or .u64 (low l : Int) (IntKind.u64.wrap (IntKind.u64.wrap (x.toNat : Int) * 2 ^ (8 * j))) = (low (l ++ [x]) : Int) := by
  have h1 := low_lt l
  have h2 := x.toNat_lt
  rw [hl] at h1
  have hp : (256 : Nat) ^ j = 2 ^ (8 * j) := by rw [Nat.pow_mul]
  rw [low_snoc, hl, hp]
  rw [hp] at h1
  have h3 : x.toNat * 2 ^ (8 * j) < 18446744073709551616 := by
    have : x.toNat * 2 ^ (8 * j) < 2 ^ 8 * 2 ^ (8 * j) := Nat.mul_lt_mul_of_pos_right (by omega) (Nat.pow_pos (by omega))
    rw [← Nat.pow_add] at this
    exact Nat.lt_of_lt_of_le this (Nat.pow_le_pow_right (by omega) (show 8 + 8 * j ≤ 64 by omega))
  have h4 : low l < 18446744073709551616 := Nat.lt_of_lt_of_le h1 (Nat.pow_le_pow_right (by omega) (show 8 * j ≤ 64 by omega))
  have e1 : IntKind.u64.wrap (x.toNat : Int) = (x.toNat : Int) := IntWalk.u64_in _ (by omega)
  have e2 : ((x.toNat : Int) * 2 ^ (8 * j)) = ((x.toNat * 2 ^ (8 * j) : Nat) : Int) := by simp
  rw [e1, e2, IntWalk.u64_in _ (by omega), u64_or_nat _ _ h4 h3, Nat.or_comm, nat_join (8 * j) _ _ (Nat.mul_mod_left _ _) h1]
  congr 1
  omega
theorem Rd.take_yes {s : Rd} {n : Int} (h : (s.take n).2.1 = true) : s.e = 0 ∧ 0 ≤ n ∧ n ≤ (s.b.size : Int) ∧ (s.take n).1 = s.b.extract 0 n.toNat ∧ (s.take n).2.2 = ⟨s.b.extract n.toNat s.b.size, 0⟩ := by
  unfold Rd.take at h ⊢
  split at h
  · cases h
  · rename_i h0
    split at h
    · cases h
    · rename_i h1
      split at h
      · cases h
      · rename_i h2
        simp only [h0, h1, h2, if_false]
        refine ⟨by simpa using h0, by omega, by omega, ?_, ?_⟩ <;> simp
theorem Rd.take_size {s : Rd} {k : Nat} (h : (s.take k).2.1 = true) : (s.take k).1.size = k := by
  obtain ⟨_, _, h2, h3, _⟩ := Rd.take_yes h
  rw [h3]
  simp
  omega
open Go.Shelf Go.RowKit
def laysM316_ren : Go.Shelf.Ren := ⟨fun | 316 => 106 | n => n, fun | 9 => 9 | 3 => 3 | 4 => 4 | 37 => 81 | 0 => 0 | 127 => 159 | 5 => 5 | n => n, fun | n => n⟩
theorem laysM316 : Go.Proofs.LaysM.n316 Tryz.prog laysM316_ren := {
  mixed := by kernel_rfl
  f316 := Tryz.func106.trans (congrArg some (by kernel_rfl))
  t0 := Tryz.underlying0
  a0 := Tryz.isAgg0
  z0 := Tryz.sizeOf0
  v0 := Tryz.zeroValue0
  t3 := Tryz.underlying3
  a3 := Tryz.isAgg3
  z3 := Tryz.sizeOf3
  v3 := Tryz.zeroValue3
  t4 := Tryz.underlying4
  a4 := Tryz.isAgg4
  z4 := Tryz.sizeOf4
  v4 := Tryz.zeroValue4
  t9 := Tryz.underlying9
  a9 := Tryz.isAgg9
  z9 := Tryz.sizeOf9
  v9 := Tryz.zeroValue9
  t37 := Tryz.underlying81
  a37 := Tryz.isAgg81
  z37 := Tryz.sizeOf81
  v37 := Tryz.zeroValue81
  t127 := Tryz.underlying159
  a127 := Tryz.isAgg159
  z127 := Tryz.sizeOf159
  v127 := Tryz.zeroValue159
  t5 := Tryz.underlying5
  a5 := Tryz.isAgg5
  z5 := Tryz.sizeOf5
  v5 := Tryz.zeroValue5
  i0 := by kernel_rfl
  i3 := by kernel_rfl
  i4 := by kernel_rfl
  i5 := by kernel_rfl
  i9 := by kernel_rfl
  i37 := by kernel_rfl
  i127 := by kernel_rfl }
def lays105_ren : Go.Shelf.Ren := ⟨fun | 105 => 36 | 212 => 66 | 99 => 67 | 165 => 68 | 166 => 69 | 170 => 70 | 169 => 71 | 263 => 107 | 264 => 108 | 206 => 109 | 240 => 110 | 241 => 111 | 276 => 135 | 277 => 136 | n => n, fun | 9 => 9 | 3 => 3 | 4 => 4 | 20 => 20 | 0 => 0 | 46 => 102 | 109 => 103 | 5 => 5 | 72 => 108 | 76 => 112 | 51 => 154 | 146 => 155 | 53 => 121 | 148 => 157 | 70 => 106 | 37 => 81 | 75 => 111 | 127 => 159 | 164 => 181 | 80 => 114 | n => n, fun | n => n⟩
theorem lays105 : Go.Proofs.Lays.n105 Tryz.prog lays105_ren := {
  mixed := by kernel_rfl
  f99 := Tryz.func67.trans (congrArg some (by kernel_rfl))
  f105 := Tryz.func36.trans (congrArg some (by kernel_rfl))
  f165 := Tryz.func68.trans (congrArg some (by kernel_rfl))
  f166 := Tryz.func69.trans (congrArg some (by kernel_rfl))
  f169 := Tryz.func71.trans (congrArg some (by kernel_rfl))
  f170 := Tryz.func70.trans (congrArg some (by kernel_rfl))
  f206 := Tryz.func109.trans (congrArg some (by kernel_rfl))
  f212 := Tryz.func66.trans (congrArg some (by kernel_rfl))
  f240 := Tryz.func110.trans (congrArg some (by kernel_rfl))
  f241 := Tryz.func111.trans (congrArg some (by kernel_rfl))
  f263 := Tryz.func107.trans (congrArg some (by kernel_rfl))
  f264 := Tryz.func108.trans (congrArg some (by kernel_rfl))
  f276 := Tryz.func135.trans (congrArg some (by kernel_rfl))
  f277 := Tryz.func136.trans (congrArg some (by kernel_rfl))
  t0 := Tryz.underlying0
  a0 := Tryz.isAgg0
  z0 := Tryz.sizeOf0
  v0 := Tryz.zeroValue0
  t3 := Tryz.underlying3
  a3 := Tryz.isAgg3
  z3 := Tryz.sizeOf3
  v3 := Tryz.zeroValue3
  t4 := Tryz.underlying4
  a4 := Tryz.isAgg4
  z4 := Tryz.sizeOf4
  v4 := Tryz.zeroValue4
  t5 := Tryz.underlying5
  a5 := Tryz.isAgg5
  z5 := Tryz.sizeOf5
  v5 := Tryz.zeroValue5
  t9 := Tryz.underlying9
  a9 := Tryz.isAgg9
  z9 := Tryz.sizeOf9
  v9 := Tryz.zeroValue9
  t20 := Tryz.underlying20
  a20 := Tryz.isAgg20
  z20 := Tryz.sizeOf20
  v20 := Tryz.zeroValue20
  t37 := Tryz.underlying81
  a37 := Tryz.isAgg81
  z37 := Tryz.sizeOf81
  v37 := Tryz.zeroValue81
  t46 := Tryz.underlying102
  a46 := Tryz.isAgg102
  z46 := Tryz.sizeOf102
  v46 := Tryz.zeroValue102
  t51 := Tryz.underlying154
  a51 := Tryz.isAgg154
  z51 := Tryz.sizeOf154
  v51 := Tryz.zeroValue154
  t53 := Tryz.underlying121
  a53 := Tryz.isAgg121
  z53 := Tryz.sizeOf121
  v53 := Tryz.zeroValue121
  t70 := Tryz.underlying106
  a70 := Tryz.isAgg106
  z70 := Tryz.sizeOf106
  v70 := Tryz.zeroValue106
  t72 := Tryz.underlying108
  a72 := Tryz.isAgg108
  z72 := Tryz.sizeOf108
  v72 := Tryz.zeroValue108
  t75 := Tryz.underlying111
  a75 := Tryz.isAgg111
  z75 := Tryz.sizeOf111
  v75 := Tryz.zeroValue111
  t76 := Tryz.underlying112
  a76 := Tryz.isAgg112
  z76 := Tryz.sizeOf112
  v76 := Tryz.zeroValue112
  t109 := Tryz.underlying103
  a109 := Tryz.isAgg103
  z109 := Tryz.sizeOf103
  v109 := Tryz.zeroValue103
  t127 := Tryz.underlying159
  a127 := Tryz.isAgg159
  z127 := Tryz.sizeOf159
  v127 := Tryz.zeroValue159
  t146 := Tryz.underlying155
  a146 := Tryz.isAgg155
  z146 := Tryz.sizeOf155
  v146 := Tryz.zeroValue155
  t148 := Tryz.underlying157
  a148 := Tryz.isAgg157
  z148 := Tryz.sizeOf157
  v148 := Tryz.zeroValue157
  t164 := Tryz.underlying181
  a164 := Tryz.isAgg181
  z164 := Tryz.sizeOf181
  v164 := Tryz.zeroValue181 }
theorem Builder_Extra_105 : Builder.Extra Tryz.prog lays105_ren := {
  sizeBuilder := by kernel_rfl
  liesBuilder := by kernel_rfl
  t5 := Tryz.underlying5
  a5 := Tryz.isAgg5
  z5 := Tryz.sizeOf5
  v5 := Tryz.zeroValue5
  infoByte := by kernel_rfl
  cellsByte := by kernel_rfl
  sizeByte := by kernel_rfl
  neB5 := by decide }
def layB_ren : Go.Shelf.Ren := ⟨fun | 166 => 69 | 169 => 71 | 240 => 110 | 276 => 135 | n => n, fun | 0 => 0 | 3 => 3 | 4 => 4 | 5 => 5 | 9 => 9 | 20 => 20 | 37 => 81 | 70 => 106 | 72 => 108 | 75 => 111 | 80 => 114 | 127 => 159 | 164 => 181 | n => n, fun | n => n⟩
theorem layB166 : Go.Proofs.Lays.n166 Tryz.prog layB_ren := {
  mixed := by kernel_rfl
  f166 := Tryz.func69.trans (congrArg some (by kernel_rfl))
  f240 := Tryz.func110.trans (congrArg some (by kernel_rfl))
  f276 := Tryz.func135.trans (congrArg some (by kernel_rfl))
  t0 := Tryz.underlying0
  a0 := Tryz.isAgg0
  z0 := Tryz.sizeOf0
  v0 := Tryz.zeroValue0
  t3 := Tryz.underlying3
  a3 := Tryz.isAgg3
  z3 := Tryz.sizeOf3
  v3 := Tryz.zeroValue3
  t4 := Tryz.underlying4
  a4 := Tryz.isAgg4
  z4 := Tryz.sizeOf4
  v4 := Tryz.zeroValue4
  t9 := Tryz.underlying9
  a9 := Tryz.isAgg9
  z9 := Tryz.sizeOf9
  v9 := Tryz.zeroValue9
  t20 := Tryz.underlying20
  a20 := Tryz.isAgg20
  z20 := Tryz.sizeOf20
  v20 := Tryz.zeroValue20
  t37 := Tryz.underlying81
  a37 := Tryz.isAgg81
  z37 := Tryz.sizeOf81
  v37 := Tryz.zeroValue81
  t70 := Tryz.underlying106
  a70 := Tryz.isAgg106
  z70 := Tryz.sizeOf106
  v70 := Tryz.zeroValue106
  t72 := Tryz.underlying108
  a72 := Tryz.isAgg108
  z72 := Tryz.sizeOf108
  v72 := Tryz.zeroValue108
  t75 := Tryz.underlying111
  a75 := Tryz.isAgg111
  z75 := Tryz.sizeOf111
  v75 := Tryz.zeroValue111
  t164 := Tryz.underlying181
  a164 := Tryz.isAgg181
  z164 := Tryz.sizeOf181
  v164 := Tryz.zeroValue181 }
theorem layB169 : Go.Proofs.Lays.n169 Tryz.prog layB_ren := {
  mixed := by kernel_rfl
  f169 := Tryz.func71.trans (congrArg some (by kernel_rfl))
  t0 := Tryz.underlying0
  a0 := Tryz.isAgg0
  z0 := Tryz.sizeOf0
  v0 := Tryz.zeroValue0
  t3 := Tryz.underlying3
  a3 := Tryz.isAgg3
  z3 := Tryz.sizeOf3
  v3 := Tryz.zeroValue3
  t9 := Tryz.underlying9
  a9 := Tryz.isAgg9
  z9 := Tryz.sizeOf9
  v9 := Tryz.zeroValue9
  t37 := Tryz.underlying81
  a37 := Tryz.isAgg81
  z37 := Tryz.sizeOf81
  v37 := Tryz.zeroValue81
  t70 := Tryz.underlying106
  a70 := Tryz.isAgg106
  z70 := Tryz.sizeOf106
  v70 := Tryz.zeroValue106
  t72 := Tryz.underlying108
  a72 := Tryz.isAgg108
  z72 := Tryz.sizeOf108
  v72 := Tryz.zeroValue108
  t127 := Tryz.underlying159
  a127 := Tryz.isAgg159
  z127 := Tryz.sizeOf159
  v127 := Tryz.zeroValue159 }
theorem layB_extra : Builder.Extra Tryz.prog layB_ren := {
  sizeBuilder := by kernel_rfl
  liesBuilder := by kernel_rfl
  t5 := Tryz.underlying5
  a5 := Tryz.isAgg5
  z5 := Tryz.sizeOf5
  v5 := Tryz.zeroValue5
  infoByte := by kernel_rfl
  cellsByte := by kernel_rfl
  sizeByte := by kernel_rfl
  neB5 := by decide }
theorem clone_lite (s : ByteArray) (w : World) (hlim : s.size ≤ 281474976710656) :
    Calls Tryz.prog 106 #[.string s] w fun e w' => e = .returned (.string s) ∧ Below w.heap.size w w' := Any.stringslite_Clone laysM316 s w hlim
theorem repeat_any (s : ByteArray) (c : Nat) (w : World) (hc : c ≤ 9223372036854775807) (hlen : s.size * c ≤ 140737488355328) :
    Calls Tryz.prog 36 #[.string s, .int .i64 c] w fun e w' => e = .returned (.string ⟨(Lib.repeatL s.data.toList c).toArray⟩) ∧ Below w.heap.size w w' := Any.strings_Repeat lays105 Builder_Extra_105 s c w hc hlen
theorem sb_string (B b : Nat) (bs : List Value) (s : ByteArray) (w : World) (h : Lib.IsBuilderF 108 5 B b bs w) (hlen : bs.length + s.size ≤ 140737488355328) (hBw : B ≤ w.heap.size) :
    Calls Tryz.prog 69 #[.pointer (some ⟨b, 0, none⟩), .string s] w fun e w' => e = .returned (.tuple #[.int .i64 s.size, .nilIface]) ∧ (Lib.BuilderAtF 108 5 B b (.pointer (some ⟨b, 0, none⟩)) (bs ++ Lib.strCells s) w' ∧ Below B w w' ∧ Lib.OthersKept 5 (some b) w w') :=
  Any.Builder_WriteString_k layB166 layB_extra B b bs s w h hlen hBw
theorem sb_text (B b : Nat) (l : List UInt8) (w : World) (h : Lib.IsBuilderF 108 5 B b (Lib.byteCells l) w) (hBw : B ≤ w.heap.size) :
    Calls Tryz.prog 71 #[.pointer (some ⟨b, 0, none⟩)] w fun e w' => e = .returned (.string ⟨l.toArray⟩) ∧ (Lib.IsBuilderF 108 5 B b (Lib.byteCells l) w' ∧ Below B w w' ∧ Lib.OthersKept 5 (some b) w w') :=
  Any.Builder_String_any_k layB169 layB_extra B b l w h hBw
end Go.Proofs.YtiagofgcinlnhaaGreatDoor
