/-
  RoomPlays on its way: the room, the list that the statement keeps, the book of lists that were answered. No statement is proved here.
-/
import Derived.Test.YtbaanoomilohhaaGreatRefRoom
import Derived.Test.YtbaanoomilohhaaGreatBookAt
import Derived.Test.YtbaanoomilohhaaGreatRoomFillsPure
namespace Go.Proofs.YtbaanoomilohhaaGreat
open Go.RowKit

theorem row_grownT {T : TypeId} {w w' : World} {base n : Nat} {e : TypeId} {v : Value} {xs : List Value} (hr : w.ownsRow base e 1 v n xs) (hg : GrownT T w w') (he : e ≠ T) : w'.ownsRow base e 1 v n xs :=
  row_kept' hr fun b hb => by
    obtain ⟨cs, hc⟩ := row_type hr hb
    exact (hg.block b e cs (0, 0) hc he).trans hc.symm
theorem BookAt.grownT {T : TypeId} {B g k : Nat} {ls : List LI} {w w' : World} (h : BookAt B g k ls w) (hg : GrownT T w w') (h1 : 42 ≠ T) (h2 : 22 ≠ T) (h3 : 3 ≠ T) : BookAt B g k ls w' := by
  obtain ⟨p, cp, q, cq, us, k1, k2, k3, k4, k5, k6, k7, k8, k9, k10⟩ := h
  exact ⟨p, cp, q, cq, us, k1.grownT hg h1, k2, row_grownT k3 hg h2, row_grownT k4 hg h2, k5, k6, k7, ⟨fun i l hl => row_grownT (k8.own i l hl) hg h3, k8.apart⟩, k9, fun i l u hl hu => ⟨(k10 i l u hl hu).1, row_grownT (k10 i l u hl hu).2 hg h3⟩⟩
theorem RoomTurns.grownT {w w' : World} {g n : Nat} {H H' : List Int} (h : RoomTurns w w' g n H') (hr : RoomAt w g n H) : GrownT 64 w w' := GrownT.of_by h.by_ hr.blk
theorem RoomAt.other {w w' : World} {g g' n n' : Nat} {H H' : List Int} (h : RoomAt w g' n' H') (ht : RoomTurns w w' g n H) (hne : g' ≠ g) : RoomAt w' g' n' H' :=
  ⟨h.blk.grown ht.by_ (fun e => hne (Option.some.inj e)), h.ok, h.size⟩
theorem LentK.turned {w w' : World} {B g0 cap g n : Nat} {xs H : List Int} (h : LentK w B g0 cap xs) (ht : RoomTurns w w' g n H) (hne : g0 ≠ g) : LentK w' B g0 cap xs := by
  obtain ⟨h0, h1, h2, h3, h4⟩ := h
  exact ⟨h0, Nat.lt_of_lt_of_le h1 ht.by_.size, h2, h3, fun j x hx => (ht.cell (p := ⟨g0, j, none⟩) h1 hne).trans (h4 j x hx)⟩

/-- Between two operations: the room in block gr, the list in a row of its own, the book in block gb. -/
structure Pl10 (w wr : World) (B gr gb n k : Nat) (H : List Int) (ls : List LI) (A : Option Addr) (c : Nat) : Prop where
  room : RoomAt wr gr n H
  book : BookAt B gb k ls wr
  row : wr.ownsRow w.heap.size 3 1 (.slice A H.length c) H.length (H.map (Value.int .i64))
  grB : w.heap.size ≤ gr
  base : w.heap.size ≤ B
  below : Below w.heap.size w wr
section
variable {w wr w' : World} {B gr gb n k : Nat} {H H' : List Int} {ls : List LI} {A A' : Option Addr} {c c' : Nat}
theorem Pl10.ints (t : Pl10 w wr B gr gb n k H ls A c) : Ints wr wr.heap.size A H := row_ints t.row
theorem Pl10.calls (t : Pl10 w wr B gr gb n k H ls A c) (hb : Below wr.heap.size wr w') : Pl10 w w' B gr gb n k H ls A c :=
  ⟨t.room.below hb, t.book.below hb, row_below t.row hb, t.grB, t.base, t.below.trans (hb.mono t.below.size)⟩
/-- The room was turned: what it has is told anew, the list is still the elder one. -/
structure Off10 (w wr : World) (B gr gb n k : Nat) (H G : List Int) (ls : List LI) (A : Option Addr) (c : Nat) : Prop where
  room : RoomAt wr gr n G
  book : BookAt B gb k ls wr
  row : wr.ownsRow w.heap.size 3 1 (.slice A H.length c) H.length (H.map (Value.int .i64))
  grB : w.heap.size ≤ gr
  base : w.heap.size ≤ B
  below : Below w.heap.size w wr
theorem Pl10.off (t : Pl10 w wr B gr gb n k H ls A c) : Off10 w wr B gr gb n k H H ls A c := ⟨t.room, t.book, t.row, t.grB, t.base, t.below⟩
theorem Off10.on {G : List Int} (t : Off10 w wr B gr gb n k G G ls A c) : Pl10 w wr B gr gb n k G ls A c := ⟨t.room, t.book, t.row, t.grB, t.base, t.below⟩
theorem Off10.calls {G : List Int} (t : Off10 w wr B gr gb n k H G ls A c) (hb : Below wr.heap.size wr w') : Off10 w w' B gr gb n k H G ls A c :=
  ⟨t.room.below hb, t.book.below hb, row_below t.row hb, t.grB, t.base, t.below.trans (hb.mono t.below.size)⟩
theorem Off10.turned {G G' : List Int} (t : Off10 w wr B gr gb n k H G ls A c) (hT : RoomTurns wr w' gr n G') : Off10 w w' B gr gb n k H G' ls A c := by
  have hg := hT.grownT t.room
  exact ⟨hT.room, t.book.grownT hg (by decide) (by decide) (by decide), row_grownT t.row hg (by decide), t.grB, t.base, hT.under t.below t.grB t.below.size⟩
/-- The list is another one. -/
theorem Off10.listed {G : List Int} (t : Off10 w wr B gr gb n k H G ls A c) (hb : Below wr.heap.size wr w') {B' : Nat} (hB : w.heap.size ≤ B') (hrow : w'.ownsRow B' 3 1 (.slice A' H'.length c') H'.length (H'.map (Value.int .i64))) : Off10 w w' B gr gb n k H' G ls A' c' :=
  ⟨t.room.below hb, t.book.below hb, row_lower hrow hB, t.grB, t.base, t.below.trans (hb.mono t.below.size)⟩
/-- Another room stands in its place. -/
theorem Off10.swap {G G' : List Int} {g : Nat} (t : Off10 w wr B gr gb n k H G ls A c) (hr : RoomAt wr g n G') (hg : w.heap.size ≤ g) : Off10 w wr B g gb n k H G' ls A c := ⟨hr, t.book, t.row, hg, t.base, t.below⟩
/-- A list more in the book. -/
theorem Pl10.add (t : Pl10 w wr B gr gb n k H ls A c) {l : LI} (hk : k < 250) (hb : Below wr.heap.size wr w') (hl : l.xs.length ≤ 900000) (hrow : w'.ownsRow wr.heap.size 3 1 l.val l.xs.length (l.xs.map (Value.int .i64))) (hB : B ≤ wr.heap.size) :
    Calls Tryz.prog 15 #[.pointer (some ⟨gb, 0, none⟩), l.val] w' fun e w'' => e = .returned (.tuple #[]) ∧ Pl10 w w'' B gr gb n (k + 1) H (ls ++ [l]) A c ∧ BookLeaves w' w'' ∧ Below B w' w'' := by
  refine ((t.calls hb).book.add l wr.heap.size hB hrow (fun l' hl' b hb' => t.book.old l' hl' b hb') hk hl).mono ?_
  rintro e w'' ⟨rfl, h1, h2, h3⟩
  have t' := t.calls hb
  exact ⟨rfl, ⟨⟨h3 _ _ _ t'.room.blk (by decide) (by decide), t'.room.ok, t'.room.size⟩, h1, h3.row t'.row (by decide) (by decide), t.grB, t.base, t'.below.trans (h2.mono t.base)⟩, h3, h2⟩
theorem Pl10.bookB (t : Pl10 w wr B gr gb n k H ls A c) : B ≤ wr.heap.size := by
  obtain ⟨p, cp, q, cq, us, h1, h2, _⟩ := t.book
  have := h1.lt
  omega
end
set_option maxRecDepth 100000 in
theorem rall_none (w : World) : Calls Tryz.prog 14 #[.pointer none] w fun e w' => e = .returned (.slice none 0 0) ∧ w' = w := by
  have HS := Lib.hid (size_none w)
  go_enter Tryz.func14, Tryz.ntmps14
  go_wp2_with fail
  refine HS.out.mono ?_
  rintro e w1 ⟨rfl, rfl⟩
  go_wp2_with fail
  go_loopw [3, 7] (fun v i wr => v = .slice none 0 0 ∧ i = .int .i64 0 ∧ wr = w1) (fun _ _ _ => 0)
  case atStart => exact ⟨rfl, rfl, rfl⟩
  case round =>
    obtain ⟨rfl, rfl, rfl⟩ := hrel
    go_wp2_with fail
    go_ret
    exact ⟨rfl, rfl⟩
end Go.Proofs.YtbaanoomilohhaaGreat
