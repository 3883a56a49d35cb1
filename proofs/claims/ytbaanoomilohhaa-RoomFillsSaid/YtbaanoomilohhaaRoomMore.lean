/-
  Package room: made, copied, all in use, given back. No statement is proved here.
-/
import Derived.Test.YtbaanoomilohhaaRoomLook
import Derived.Test.YtbaanoomilohhaaRefPut
import Derived.Deep.AppendLies
namespace Go.Proofs.Ytbaanoomilohhaa
open Go.RowKit

theorem RoomTurns.refl {w : World} {g n : Nat} {H : List Int} (h : RoomAt w g n H) : RoomTurns w w g n H := ⟨h, by_refl _ _⟩
theorem RoomTurns.drewN {w w' : World} {g n : Nat} {H : List Int} (h : RoomTurns w w' g n H) (d : Nat) : RoomTurns w (w'.drewN d) g n H := ⟨h.room.drewN d, by_drewN h.by_ d⟩
theorem RoomTurns.trans {w w' w'' : World} {g n : Nat} {H H' : List Int} (h : RoomTurns w w' g n H) (k : RoomTurns w' w'' g n H') : RoomTurns w w'' g n H' := ⟨k.room, by_trans h.by_ k.by_⟩
theorem RoomTurns.below {w w' w'' : World} {g n : Nat} {H : List Int} (h : RoomTurns w w' g n H) (k : Below w'.heap.size w' w'') : RoomTurns w w'' g n H := ⟨h.room.below k, by_trans h.by_ (by_below k (Nat.le_refl _))⟩
theorem RoomTurns.cell {w w' : World} {g n : Nat} {H : List Int} (h : RoomTurns w w' g n H) {p : Addr} (hp : p.block < w.heap.size) (hne : p.block ≠ g) : w'.cell? p = w.cell? p :=
  World.cell?_of_block (h.by_.block _ hp (fun e => hne (Option.some.inj e)))
theorem RoomTurns.ints {w w' : World} {g n : Nat} {H : List Int} (h : RoomTurns w w' g n H) {A : Option Addr} {xs : List Int} (hx : Ints w w.heap.size A xs) (hne : ∀ a, A = some a → a.block ≠ g) : Ints w' w'.heap.size A xs := fun hp => by
  obtain ⟨b, off, e, hb, hc⟩ := hx hp
  exact ⟨b, off, e, Nat.lt_of_lt_of_le hb h.by_.size, fun j x hj => (h.cell (p := ⟨b, off + j, none⟩) hb (by have := hne _ e; exact this)).trans (hc j x hj)⟩
theorem RoomTurns.under {w0 w w' : World} {B g n : Nat} {H : List Int} (h : RoomTurns w w' g n H) (hb : Below B w0 w) (hg : B ≤ g) (hB : B ≤ w.heap.size) : Below B w0 w' :=
  ⟨h.by_.os.trans hb.os, h.by_.tape.trans hb.tape, h.by_.output.trans hb.output, Nat.le_trans hb.size h.by_.size, fun i hi => (h.by_.block i (by omega) (fun e => by have := Option.some.inj e; omega)).trans (hb.block i hi)⟩

end Go.Proofs.Ytbaanoomilohhaa
