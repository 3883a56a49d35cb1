/-
  The writer's texts and bytes.
-/
import Derived.Test.YtbaanoomilohhaaGreatDoorOut
import Derived.Test.YtbaanoomilohhaaGreatDoorTxts
namespace Go.Proofs.YtbaanoomilohhaaGreatDoor
open Go.RowKit

/-- All texts with their lengths, of all texts bytes alone. -/
def textsBytes (l : List ByteArray) : List UInt8 := l.flatMap textBytes
theorem textsBytes_snoc {l : List ByteArray} {j : Nat} {x : ByteArray} (h : l[j]? = some x) : textsBytes (l.take (j + 1)) = textsBytes (l.take j) ++ textBytes x := by
  rw [List.take_add_one, h]; simp [textsBytes]
theorem textsBytes_len {l : List ByteArray} {j : Nat} {x : ByteArray} (h : l[j]? = some x) : (textsBytes (l.take j)).length + 2 + x.size ≤ (textsBytes l).length := by
  have e : textsBytes l = textsBytes (l.take (j + 1)) ++ textsBytes (l.drop (j + 1)) := by unfold textsBytes; rw [← List.flatMap_append, List.take_append_drop]
  rw [e, textsBytes_snoc h, List.length_append, List.length_append, textBytes, List.length_append, lowBytes_length, Lib.size_eq]
  omega
theorem allShort_snoc {l : List ByteArray} {j : Nat} {x : ByteArray} (h : l[j]? = some x) (h1 : allShort (l.take j) = true) (h2 : x.size ≤ 65535) : allShort (l.take (j + 1)) = true := by
  rw [List.take_add_one, h]
  unfold allShort at h1 ⊢
  simp [h2]
  simpa using h1
theorem allShort_no {l : List ByteArray} {x : ByteArray} (h : x ∈ l) (hx : 65535 < x.size) : allShort l = false := by
  unfold allShort
  rw [List.all_eq_false]
  exact ⟨x, h, by simp; omega⟩
/-- What three writes into a builder leave, as the bytes of one text. -/
theorem text_cells (l : List UInt8) (x : ByteArray) (h : x.size ≤ 65535) :
    Lib.byteCells l ++ [Value.int .u8 ((x.size : Int) % 256)] ++ [Value.int .u8 ((x.size : Int) / 256)] ++ Lib.strCells x = Lib.byteCells (l ++ textBytes x) := by
  have e : (x.size : Int) / 256 = ((x.size / 256 % 256 : Nat) : Int) := by omega
  rw [e]
  simp [Lib.byteCells, Lib.strCells, textBytes, lowBytes, Nat.toUInt8]

set_option maxRecDepth 100000 in
set_option maxHeartbeats 2000000 in
theorem raws_core (q : Option Addr) (A : Option Addr) (c : Nat) (xs : List ByteArray) (w : World) (hx : Txts w w.heap.size A xs) (hlen : xs.length ≤ 140737488351232) (hsum : (cats xs).length ≤ 140737488351232)
    (R : World → Prop)
    (hlay : ∀ w1, Below w.heap.size w w1 → Calls Tryz.prog 110 #[.pointer q, .string ⟨(cats xs).toArray⟩] w1 fun e w' => e = .returned (.pointer q) ∧ R w') :
    Calls Tryz.prog 99 #[.pointer q, .slice A xs.length c] w fun e w' => e = .returned (.pointer q) ∧ R w' := by
  have HX := Lib.hid hx
  have HL := Lib.hid hlay
  have HS := Lib.hid hsum
  clear hx hlay hsum
  obtain ⟨n, hn⟩ : ∃ n, n = xs.length := ⟨_, rfl⟩
  rw [← hn] at hlen ⊢
  have HN := Lib.hid hn
  clear hn
  go_enter Tryz.func99, Tryz.ntmps99
  go_wp2_with fail
  have hb0 : Lib.IsBuilderF 83 5 w.heap.size w.heap.size (Lib.byteCells []) (w.alloc (.cells #[.pointer none, .slice none 0 0] 83)) := Lib.IsBuilderF.of (Lib.fresh_isBuilder _ _ w)
  go_loopw [10] (fun i wr => ∃ j : Nat, j ≤ n ∧ i = .int .i64 j ∧ Lib.IsBuilderF 83 5 w.heap.size w.heap.size (Lib.byteCells (cats (xs.take j))) wr ∧ Below w.heap.size w wr)
    (fun i _ => n - (intOf i).toNat)
  case atStart => exact ⟨0, Nat.zero_le _, rfl, by simpa [cats] using hb0, (Below.refl _ _).alloc (Nat.le_refl _) _⟩
  case round =>
    obtain ⟨j, hj, rfl, hB, hbr⟩ := hrel
    clear hb0
    by_cases hlt : j < n
    · have hxl : j < xs.length := by rw [← HN.out]; exact hlt
      obtain ⟨b, off, hA, hbB, hc⟩ := HX.out (by omega)
      obtain ⟨x, hx⟩ : ∃ x, x = xs[j] := ⟨_, rfl⟩
      have hxj : xs[j]? = some x := by rw [hx]; exact List.getElem?_eq_getElem hxl
      have hcx : wr.cell? ⟨b, off + j, none⟩ = some (.string x) := (hbr.cell (p := ⟨b, off + j, none⟩) hbB).trans (hc j x hxj)
      have hsz := cats_len hxj
      have hsum := HS.out
      have e1 := cats_snoc hxj
      have HB := Lib.hid hB
      have hl1 : (Lib.byteCells (cats (xs.take j))).length + x.size ≤ 140737488355328 := by rw [Lib.byteCells_length]; omega
      have E1 := Lib.hid e1
      have HSZ := Lib.hid hl1
      clear hxj hc hx hsz hsum e1 hB hl1
      subst hA
      go_wp2_with (go_at_call 47; refine (sb_string w.heap.size w.heap.size _ x _ HB.out HSZ.out hbr.size).mono ?_; rintro e w1 ⟨rfl, hB1, hb1, _⟩)
      go_roundw
      case rel => exact ⟨j + 1, by omega, by go_num, .inr (by rw [E1.out]; simpa [Lib.byteCells, Lib.strCells] using hB1), hbr.trans hb1⟩
      case measure => simp [intOf]; omega
    · obtain rfl : j = n := by omega
      have htk : xs.take j = xs := List.take_of_length_le (by rw [← HN.out]; exact Nat.le_refl _)
      rw [htk] at hB
      clear htk
      go_wp2_with (first
        | (go_at_call 49; refine (sb_text w.heap.size w.heap.size (cats xs) _ hB hbr.size).mono ?_; rintro e w1 ⟨rfl, _, hb1, _⟩)
        | (go_at_call 110; refine (HL.out _ (hbr.trans hb1)).mono ?_; rintro e w2 ⟨rfl, hR⟩))
      go_ret
      exact ⟨rfl, hR⟩

end Go.Proofs.YtbaanoomilohhaaGreatDoor
