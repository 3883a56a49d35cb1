/-
  DeskSpoilt: the law's walk. No statement is proved here.
-/
import Derived.Test.YtdibeieiogagoaaGreatDoorDeskSpoiltMid
import Derived.Test.YtdibeieiogagoaaGreatDoorDeskNil
namespace Go.Proofs.YtdibeieiogagoaaGreatDoor
open Go.RowKit

/-- The disk that is spoilt, at the head or at the Room, and what Open and Format tell of it. -/
structure Spoil11 (N : Nat) (w : World) (gd : Nat) (S1 : DS) (wh : Int) (X : ByteArray) : Prop where
  err : S1.errW [(wh, X)] = 0
  ok : S1.Ok
  left : S1.left ≤ 100
  few : S1.writes ≤ 100000 ∧ S1.dirty.length ≤ 100
  opn : ∀ (w1 : World) (O1 : List Nat), DiskAt w1 O1 gd (S1.write [(wh, X)]) → Calls Tryz.prog 31 #[.pointer (some ⟨gd, 0, none⟩)] w1 fun e w' => e = .returned (.tuple #[.pointer none, .int .i64 25]) ∧ Turns O1 gd (S1.write [(wh, X)]) w1 w'
  fmt : ∀ (w1 : World) (O1 : List Nat), DiskAt w1 O1 gd (S1.write [(wh, X)]) → Calls Tryz.prog 10 #[.pointer (some ⟨gd, 0, none⟩)] w1 fun e w' => ∃ g K, e = .returned (.tuple #[.pointer (some ⟨g, 0, none⟩), .int .i64 0]) ∧ KOpen O1 g gd 1 K w1 w' ∧ Good11 N K.S K.seq
theorem small_of {N : Nat} {q : Int} {h s : List ByteArray} (hs : Held N q h s) : ∀ x ∈ s, x.size ≤ 100000 := fun x hx => Nat.le_trans (hs.small x hx) (by omega)
theorem spoil_room {N n1 : Nat} {q : Int} {h s1 : List ByteArray} {w : World} {gd : Nat} {X : ByteArray} (hs : Held N q h s1) (hq : q ≤ 10) (hn : n1 ≤ 5000) (hX : X.size = 256) (hf : X.data.toList.head? = some 120) : Spoil11 N w gd (calm s1 n1) 112 X := by
  have hdim := hs.dim
  have hlen : s1.length = N := hs.len
  obtain ⟨h1, d, h2, h3⟩ := spoil_write (n1 := n1) (k := 112) (by rw [hlen]; omega) hX
  have hXl : X.data.toList.length = 256 := by rw [← Lib.size_eq]; exact hX
  have hh : Held N q (h.set 1 X) (s1.set 112 X) := by
    refine ⟨by rw [List.length_set]; exact hlen, hdim, ?_, hs.seq, by rw [List.length_set]; exact hs.hlen, fun t ht => ?_, fun x hx => ?_⟩
    · rw [List.getElem?_set_ne (by omega)]; exact hs.head
    · by_cases e : t = 1
      · subst e
        rw [List.getElem?_set_self (by omega), List.getElem?_set_self (by rw [hs.hlen]; omega)]
      · rw [List.getElem?_set_ne (by omega), List.getElem?_set_ne (by omega)]
        exact hs.home t ht
    · rcases List.mem_or_eq_of_mem_set hx with h | h
      · exact hs.small x h
      · rw [h]; omega
  have hok : ((calm s1 n1).write [(((112 : Nat) : Int), X)]).Ok := (calm_ok s1 n1).write _
  have hsec : sector1 (h.set 1 X) = X := by
    unfold sector1
    rw [List.getD_eq_getElem?_getD, List.getElem?_set_self (by rw [hs.hlen]; omega)]
    rfl
  refine ⟨h1, calm_ok _ _, by show (0 : Nat) ≤ 100; omega, ⟨by show n1 ≤ _; omega, by show (0 : Nat) ≤ _; omega⟩, fun w1 O1 hd => ?_, fun w1 O1 hd => ?_⟩
  · have hd' := hd
    rw [show ((112 : Int)) = ((112 : Nat) : Int) from rfl, h2] at hd ⊢
    exact kopen_room rfl hh (by rw [hsec]; exact read_first hXl hf) (open_held hd rfl hh)
  · rw [show ((112 : Int)) = ((112 : Nat) : Int) from rfl, h2] at hd
    rw [h2] at hok
    exact good_format (S := warm s1 (s1.set 112 X) d (n1 + 1)) hh rfl hok hq (by omega) h3 (kany_ok (open_held hd rfl hh))
theorem spoil_head {N n1 : Nat} {q : Int} {h s1 : List ByteArray} {w : World} {gd : Nat} {X : ByteArray} (hs : Held N q h s1) (hn : n1 ≤ 5000) (hX : X.size = 256) (hf : X.data.toList.head? = some 120) : Spoil11 N w gd (calm s1 n1) 0 X := by
  have hdim := hs.dim
  have hlen : s1.length = N := hs.len
  obtain ⟨h1, d, h2, h3⟩ := spoil_write (n1 := n1) (k := 0) (by rw [hlen]; omega) hX
  have hXl : X.data.toList.length = 256 := by rw [← Lib.size_eq]; exact hX
  have hsm : ∀ x ∈ s1.set 0 X, x.size ≤ 100000 := fun x hx => by
    rcases List.mem_or_eq_of_mem_set hx with h | h
    · exact small_of hs x h
    · rw [h]; omega
  have hok : ((calm s1 n1).write [(((0 : Nat) : Int), X)]).Ok := (calm_ok s1 n1).write _
  have hrd : (warm s1 (s1.set 0 X) d (n1 + 1)).read 0 = X := by
    have := (on_read (S := warm s1 (s1.set 0 X) d (n1 + 1)) rfl (x := X) (i := 0) (by show (s1.set 0 X)[0]? = some X; rw [List.getElem?_set_self (by omega)])).1
    exact this
  have hfit : Fit (s1.set 0 X).length [((0 : Int), zeroB 256)] := fun x hx => by
    rw [List.mem_singleton] at hx
    subst hx
    exact ⟨by show (0 : Int) ≤ 0; omega, by show (0 : Int) < _; rw [List.length_set]; omega, zeroB_size 256⟩
  obtain ⟨g1, g2, g3⟩ := warm_group s1 (s1.set 0 X) d (n1 + 1) [((0 : Int), zeroB 256)] hfit
  have hh : Held N 0 h (setI (s1.set 0 X) [((0 : Int), zeroB 256)]) := by
    have e : setI (s1.set 0 X) [((0 : Int), zeroB 256)] = s1.set 0 (zeroB 256) := by
      show (s1.set 0 X).set 0 (zeroB 256) = _
      rw [List.set_set]
    rw [e]
    refine ⟨by rw [List.length_set]; exact hlen, hdim, ?_, by omega, hs.hlen, fun t ht => ?_, fun x hx => ?_⟩
    · rw [List.getElem?_set_self (by omega)]; rfl
    · rw [List.getElem?_set_ne (by omega)]
      exact hs.home t ht
    · rcases List.mem_or_eq_of_mem_set hx with h | h
      · exact hs.small x h
      · rw [h, zeroB_size]; omega
  refine ⟨h1, calm_ok _ _, by show (0 : Nat) ≤ 100; omega, ⟨by show n1 ≤ _; omega, by show (0 : Nat) ≤ _; omega⟩, fun w1 O1 hd => ?_, fun w1 O1 hd => ?_⟩
  · rw [show ((0 : Int)) = ((0 : Nat) : Int) from rfl, h2] at hd ⊢
    refine (kopen_head hd hsm rfl (by show 0 < (s1.set 0 X).length; rw [List.length_set]; omega) hrd (head_first hXl hf)).mono ?_
    rintro e w' ⟨rfl, hb⟩
    exact ⟨rfl, Turns.of_below hd hb⟩
  · rw [show ((0 : Int)) = ((0 : Nat) : Int) from rfl, h2] at hd
    rw [h2] at hok
    refine good_format (S := calm (setI (s1.set 0 X) [((0 : Int), zeroB 256)]) (n1 + 1 + 1)) hh (s0 := setI (s1.set 0 X) [((0 : Int), zeroB 256)]) (d := []) rfl (calm_ok _ _) (by omega) (by omega) (by simp) ?_
    refine kany_bad (S := warm s1 (s1.set 0 X) d (n1 + 1)) hd hsm rfl (by show 0 < (s1.set 0 X).length; rw [List.length_set]; omega) hrd (head_first hXl hf) hok (by show (0 : Nat) ≤ _; omega) (by show n1 + 1 < _; omega) (by show d.length < _; omega) g1 g2 ?_ ?_
    · obtain ⟨_, d', e⟩ := warm_writeL s1 [((0 : Int), zeroB 256)] (s1.set 0 X) d (n1 + 1) hfit
      unfold DS.write
      rw [if_pos (show (warm s1 (s1.set 0 X) d (n1 + 1)).on = true from rfl), e]
      show (0 : Nat) ≤ _
      omega
    · intro w2 O2 hd2
      rw [g3] at hd2
      exact open_held hd2 rfl hh
end Go.Proofs.YtdibeieiogagoaaGreatDoor
