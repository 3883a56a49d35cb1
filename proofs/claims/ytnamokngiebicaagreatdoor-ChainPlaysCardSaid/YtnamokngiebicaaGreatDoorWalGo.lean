/-
  A Wal upon a disk that may lose its power: opened anew, a crash, a commit's ways. No statement is proved here.
-/
import Derived.Test.YtnamokngiebicaaGreatDoorRefDrop
import Derived.StillTailTactics
import Derived.Deep.AppendLies
namespace Go.Proofs.YtnamokngiebicaaGreatDoor
open Go.RowKit
variable {w : World} {gw gd : Nat} {O : List Nat} {S : DS} {seq k : Int} {n : Nat}

theorem on_read (h : S.on = true) {x : ByteArray} {i : Nat} (hx : S.now[i]? = some x) : S.read (i : Int) = x ∧ S.errR (i : Int) = 0 := by
  have hi : i < S.now.length := by
    rcases Nat.lt_or_ge i S.now.length with h' | h'
    · exact h'
    · rw [List.getElem?_eq_none h'] at hx; cases hx
  constructor
  · unfold DS.read
    rw [if_pos ⟨h, by omega, by omega⟩, Int.toNat_natCast, List.getD_eq_getElem?_getD, hx]
    rfl
  · unfold DS.errR
    rw [if_pos h, if_pos ⟨by omega, by omega⟩]

def IsHome (Z h : List ByteArray) : Prop := ∀ t : Nat, t < h.length → Z[111 + t]? = h[t]?

end Go.Proofs.YtnamokngiebicaaGreatDoor

namespace Go.Proofs.YtnamokngiebicaaGreatDoor
open Go.RowKit

end Go.Proofs.YtnamokngiebicaaGreatDoor

namespace Go.Proofs.YtnamokngiebicaaGreatDoor
open Go.RowKit

end Go.Proofs.YtnamokngiebicaaGreatDoor

namespace Go.Proofs.YtnamokngiebicaaGreatDoor
open Go.RowKit
variable {w : World} {gd gw N : Nat} {O : List Nat} {S : DS} {q : Int} {h s Y : List ByteArray} {l : List Wr1}

theorem headQ_zero (N : Nat) (hN : 140 ≤ N ∧ N ≤ 400) : Held N 0 (List.replicate (N - 111) (zeroB 256)) (List.replicate N (zeroB 256)) := by
  refine ⟨by simp, hN, ?_, by omega, by simp, fun t ht => ?_, fun x hx => ?_⟩
  · rw [List.getElem?_replicate, if_pos (by omega)]; rfl
  · rw [List.getElem?_replicate, if_pos (by omega), List.getElem?_replicate, if_pos ht]
  · rw [(List.mem_replicate.1 hx).2, zeroB_size]; exact Nat.le_refl _
/-- Opened as it stands, its head done. -/
theorem open_held (hd : DiskAt w O gd S) (hon : S.on = true) (hs : Held N q h S.now) : Calls Tryz.prog 71 #[.pointer (some ⟨gd, 0, none⟩)] w fun e w' => ∃ gw, e = .returned (.tuple #[.pointer (some ⟨gw, 0, none⟩), .int .i64 0]) ∧ OpenedAt O gd gw S q w w' := by
  have hdm := hs.dim
  refine (wopen_plain hd (fun x hx => by have := hs.small x hx; omega) hon (by rw [hs.len]; omega) (on_read hon hs.head).1 (head_readQ hs.seq.1 hs.seq.2)).mono ?_
  rintro e w' ⟨gw, rfl, k1, k2, k3⟩
  exact ⟨gw, rfl, OpenedAt.of_plain hd k1 k2 k3⟩
theorem Clean.crash (hc : Clean S s) (keep : List Int) : Dead (S.crash keep) s := by
  have := crash_dead hc.on keep
  rw [hc.dirty, hc.safe] at this
  exact this
theorem Clean.armed (hc : Clean S s) {a : Int} (ha : 0 ≤ a) (keep : List Int) : Clean (S.arm a keep) s := by
  unfold DS.arm
  rw [if_neg (by omega)]
  exact ⟨hc.on, hc.now, hc.safe, hc.dirty⟩
/-- The ways of a commit upon a clean disk, armed or not. -/
inductive Ways (N : Nat) (S : DS) (s : List ByteArray) (q k : Int) (h : List ByteArray) (l : List Wr1) : CR → Prop
  | no (e : Int) (he : e ≠ 0) (hr : (refE ((N : Int) - 111) l = e) ∨ (refE ((N : Int) - 111) l = 0 ∧ 110 < (putOnce (l.map Prod.fst)).length ∧ e = 21)) : Ways N S s q k h l ⟨S, q, true, k, e⟩
  | none (hl : l = []) : Ways N S s q k h l ⟨S, q, true, k, 0⟩
  | done (S' : DS) (s' : List ByteArray) (hp : 0 < l.length) (hr : refE ((N : Int) - 111) l = 0) (hf : (putOnce (l.map Prod.fst)).length ≤ 110) (hc : Clean S' s') (hh : Held N (q + 1) (setI h l) s') (hok : S'.Ok) (hw : S'.writes ≤ S.writes + 300) : Ways N S s q k h l ⟨S', q + 1, true, k + 1, 0⟩
  | gone (S' : DS) (Y : List ByteArray) (hp : 0 < l.length) (hr : refE ((N : Int) - 111) l = 0) (hf : (putOnce (l.map Prod.fst)).length ≤ 110) (hd : Dead S' Y) (hh : LeftQ N q h l (putOnce (l.map Prod.fst)) Y) (hok : S'.Ok) (hw : S'.writes ≤ S.writes + 300) : Ways N S s q k h l ⟨S', q, false, k, 14⟩

end Go.Proofs.YtnamokngiebicaaGreatDoor
