/-
  The writer's texts and bytes.
-/
import Derived.Test.YtdfickppfihiiaaDoorOut
namespace Go.Proofs.YtdfickppfihiiaaDoor
open Go.RowKit

/-- A list of texts as a slice: nil, empty or not. -/
def Txts (w : World) (B : Nat) (A : Option Addr) (xs : List ByteArray) : Prop :=
  0 < xs.length → ∃ b off, A = some ⟨b, off, none⟩ ∧ b < B ∧ ∀ (j : Nat) (x : ByteArray), xs[j]? = some x → w.cell? ⟨b, off + j, none⟩ = some (.string x)
theorem Txts.nil (w : World) (B : Nat) (A : Option Addr) : Txts w B A [] := fun h => absurd h (by simp)
theorem Txts.more {w : World} {B B' : Nat} {A : Option Addr} {xs : List ByteArray} (h : Txts w B A xs) (hB : B ≤ B') : Txts w B' A xs := fun hp => by
  obtain ⟨b, off, e, hb, hc⟩ := h hp
  exact ⟨b, off, e, by omega, hc⟩
theorem Txts.keep {w w' : World} {B : Nat} {A : Option Addr} {xs : List ByteArray} (h : Txts w B A xs) (hk : ∀ p : Addr, p.block < B → w'.cell? p = w.cell? p) : Txts w' B A xs := by
  intro hp
  obtain ⟨b, off, e, hb, hc⟩ := h hp
  exact ⟨b, off, e, hb, fun j x hx => (hk _ hb).trans (hc j x hx)⟩
theorem Txts.below {w w' : World} {B : Nat} {A : Option Addr} {xs : List ByteArray} (h : Txts w B A xs) (hb : Below B w w') : Txts w' B A xs := h.keep fun _ hp => hb.cell hp

/-- All texts with their lengths, of all texts bytes alone. -/
def cats (l : List ByteArray) : List UInt8 := l.flatMap fun t => t.data.toList
def textsBytes (l : List ByteArray) : List UInt8 := l.flatMap textBytes
theorem cats_snoc {l : List ByteArray} {j : Nat} {x : ByteArray} (h : l[j]? = some x) : cats (l.take (j + 1)) = cats (l.take j) ++ x.data.toList := by
  rw [List.take_add_one, h]; simp [cats]
theorem cats_len {l : List ByteArray} {j : Nat} {x : ByteArray} (h : l[j]? = some x) : (cats (l.take j)).length + x.size ≤ (cats l).length := by
  have e : cats l = cats (l.take (j + 1)) ++ cats (l.drop (j + 1)) := by unfold cats; rw [← List.flatMap_append, List.take_append_drop]
  rw [e, cats_snoc h, List.length_append, List.length_append, Lib.size_eq]
  omega
theorem textsBytes_snoc {l : List ByteArray} {j : Nat} {x : ByteArray} (h : l[j]? = some x) : textsBytes (l.take (j + 1)) = textsBytes (l.take j) ++ textBytes x := by
  rw [List.take_add_one, h]; simp [textsBytes]
theorem textsBytes_len {l : List ByteArray} {j : Nat} {x : ByteArray} (h : l[j]? = some x) : (textsBytes (l.take j)).length + 2 + x.size ≤ (textsBytes l).length := by
  have e : textsBytes l = textsBytes (l.take (j + 1)) ++ textsBytes (l.drop (j + 1)) := by unfold textsBytes; rw [← List.flatMap_append, List.take_append_drop]
  rw [e, textsBytes_snoc h, List.length_append, List.length_append, textBytes, List.length_append, lowBytes_length, Lib.size_eq]
  omega
theorem allShort_snoc {l : List ByteArray} {j : Nat} {x : ByteArray} (h : l[j]? = some x) (h1 : allShort (l.take j) = true) (h2 : x.size ≤ 65535) : allShort (l.take (j + 1)) = true := by
  rw [List.take_add_one, h]
  unfold allShort at h1 ⊢
  simp [h2]
  simpa using h1
theorem allShort_no {l : List ByteArray} {x : ByteArray} (h : x ∈ l) (hx : 65535 < x.size) : allShort l = false := by
  unfold allShort
  rw [List.all_eq_false]
  exact ⟨x, h, by simp; omega⟩
/-- What three writes into a builder leave, as the bytes of one text. -/
theorem text_cells (l : List UInt8) (x : ByteArray) (h : x.size ≤ 65535) :
    Lib.byteCells l ++ [Value.int .u8 ((x.size : Int) % 256)] ++ [Value.int .u8 ((x.size : Int) / 256)] ++ Lib.strCells x = Lib.byteCells (l ++ textBytes x) := by
  have e : (x.size : Int) / 256 = ((x.size / 256 % 256 : Nat) : Int) := by omega
  rw [e]
  simp [Lib.byteCells, Lib.strCells, textBytes, lowBytes, Nat.toUInt8]

set_option maxRecDepth 100000 in
set_option maxHeartbeats 2000000 in
theorem raws_core (q : Option Addr) (A : Option Addr) (c : Nat) (xs : List ByteArray) (w : World) (hx : Txts w w.heap.size A xs) (hlen : xs.length ≤ 140737488351232) (hsum : (cats xs).length ≤ 140737488351232)
    (R : World → Prop)
    (hlay : ∀ w1, Below w.heap.size w w1 → Calls Tryd.prog 46 #[.pointer q, .string ⟨(cats xs).toArray⟩] w1 fun e w' => e = .returned (.pointer q) ∧ R w') :
    Calls Tryd.prog 31 #[.pointer q, .slice A xs.length c] w fun e w' => e = .returned (.pointer q) ∧ R w' := by
  have HX := Lib.hid hx
  have HL := Lib.hid hlay
  have HS := Lib.hid hsum
  clear hx hlay hsum
  obtain ⟨n, hn⟩ : ∃ n, n = xs.length := ⟨_, rfl⟩
  rw [← hn] at hlen ⊢
  have HN := Lib.hid hn
  clear hn
  go_enter Tryd.func31, Tryd.ntmps31
  go_wp2_with fail
  have hb0 : Lib.IsBuilderF 69 5 w.heap.size w.heap.size (Lib.byteCells []) (w.alloc (.cells #[.pointer none, .slice none 0 0] 69)) := Lib.IsBuilderF.of (Lib.fresh_isBuilder _ _ w)
  go_loopw [10] (fun i wr => ∃ j : Nat, j ≤ n ∧ i = .int .i64 j ∧ Lib.IsBuilderF 69 5 w.heap.size w.heap.size (Lib.byteCells (cats (xs.take j))) wr ∧ Below w.heap.size w wr)
    (fun i _ => n - (intOf i).toNat)
  case atStart => exact ⟨0, Nat.zero_le _, rfl, by simpa [cats] using hb0, (Below.refl _ _).alloc (Nat.le_refl _) _⟩
  case round =>
    obtain ⟨j, hj, rfl, hB, hbr⟩ := hrel
    clear hb0
    by_cases hlt : j < n
    · have hxl : j < xs.length := by rw [← HN.out]; exact hlt
      obtain ⟨b, off, hA, hbB, hc⟩ := HX.out (by omega)
      obtain ⟨x, hx⟩ : ∃ x, x = xs[j] := ⟨_, rfl⟩
      have hxj : xs[j]? = some x := by rw [hx]; exact List.getElem?_eq_getElem hxl
      have hcx : wr.cell? ⟨b, off + j, none⟩ = some (.string x) := (hbr.cell (p := ⟨b, off + j, none⟩) hbB).trans (hc j x hxj)
      have hsz := cats_len hxj
      have hsum := HS.out
      have e1 := cats_snoc hxj
      have HB := Lib.hid hB
      have hl1 : (Lib.byteCells (cats (xs.take j))).length + x.size ≤ 140737488355328 := by rw [Lib.byteCells_length]; omega
      have E1 := Lib.hid e1
      have HSZ := Lib.hid hl1
      clear hxj hc hx hsz hsum e1 hB hl1
      subst hA
      go_wp2_with (go_at_call 45; refine (sb_string w.heap.size w.heap.size _ x _ HB.out HSZ.out hbr.size).mono ?_; rintro e w1 ⟨rfl, hB1, hb1, _⟩)
      go_roundw
      case rel => exact ⟨j + 1, by omega, by go_num, .inr (by rw [E1.out]; simpa [Lib.byteCells, Lib.strCells] using hB1), hbr.trans hb1⟩
      case measure => simp [intOf]; omega
    · obtain rfl : j = n := by omega
      have htk : xs.take j = xs := List.take_of_length_le (by rw [← HN.out]; exact Nat.le_refl _)
      rw [htk] at hB
      clear htk
      go_wp2_with (first
        | (go_at_call 47; refine (sb_text w.heap.size w.heap.size (cats xs) _ hB hbr.size).mono ?_; rintro e w1 ⟨rfl, _, hb1, _⟩)
        | (go_at_call 46; refine (HL.out _ (hbr.trans hb1)).mono ?_; rintro e w2 ⟨rfl, hR⟩))
      go_ret
      exact ⟨rfl, hR⟩

set_option maxRecDepth 100000 in
set_option maxHeartbeats 2000000 in
theorem texts_core (q : Option Addr) (A : Option Addr) (c : Nat) (xs : List ByteArray) (w : World) (hx : Txts w w.heap.size A xs) (hlen : xs.length ≤ 140737488351232) (hsum : (textsBytes xs).length ≤ 140737488351232)
    (R : Bool → World → Prop)
    (hfail : ∀ w1, Below w.heap.size w w1 → Calls Tryd.prog 43 #[.pointer q, .int .i64 2] w1 fun e w' => e = .returned (.pointer q) ∧ R false w')
    (hlay : ∀ w1, Below w.heap.size w w1 → Calls Tryd.prog 46 #[.pointer q, .string ⟨(textsBytes xs).toArray⟩] w1 fun e w' => e = .returned (.pointer q) ∧ R true w') :
    Calls Tryd.prog 28 #[.pointer q, .slice A xs.length c] w fun e w' => e = .returned (.pointer q) ∧ R (allShort xs) w' := by
  have HX := Lib.hid hx
  have HF := Lib.hid hfail
  have HL := Lib.hid hlay
  have HS := Lib.hid hsum
  clear hx hfail hlay hsum
  obtain ⟨n, hn⟩ : ∃ n, n = xs.length := ⟨_, rfl⟩
  rw [← hn] at hlen ⊢
  have HN := Lib.hid hn
  clear hn
  go_enter Tryd.func28, Tryd.ntmps28
  go_wp2_with fail
  have hb0 : Lib.IsBuilderF 69 5 w.heap.size w.heap.size (Lib.byteCells []) (w.alloc (.cells #[.pointer none, .slice none 0 0] 69)) := Lib.IsBuilderF.of (Lib.fresh_isBuilder _ _ w)
  go_loopw [10] (fun i wr => ∃ j : Nat, j ≤ n ∧ i = .int .i64 j ∧ allShort (xs.take j) = true ∧ Lib.IsBuilderF 69 5 w.heap.size w.heap.size (Lib.byteCells (textsBytes (xs.take j))) wr ∧ Below w.heap.size w wr)
    (fun i _ => n - (intOf i).toNat)
  case atStart => exact ⟨0, Nat.zero_le _, rfl, by simp [allShort], by simpa [textsBytes] using hb0, (Below.refl _ _).alloc (Nat.le_refl _) _⟩
  case round =>
    obtain ⟨j, hj, rfl, hfit, hB, hbr⟩ := hrel
    have HFIT := Lib.hid hfit
    clear hb0 hfit
    by_cases hlt : j < n
    · have hxl : j < xs.length := by rw [← HN.out]; exact hlt
      obtain ⟨b, off, hA, hbB, hc⟩ := HX.out (by omega)
      obtain ⟨x, hx⟩ : ∃ x, x = xs[j] := ⟨_, rfl⟩
      have hxj : xs[j]? = some x := by rw [hx]; exact List.getElem?_eq_getElem hxl
      have hmem : x ∈ xs := by rw [hx]; exact List.getElem_mem hxl
      have hcx : wr.cell? ⟨b, off + j, none⟩ = some (.string x) := (hbr.cell (p := ⟨b, off + j, none⟩) hbB).trans (hc j x hxj)
      have HXJ := Lib.hid hxj
      clear hc hx
      subst hA
      by_cases hbig : 65535 < x.size
      · have HNO := Lib.hid (allShort_no hmem hbig)
        clear hxj hmem hB
        go_wp2_with (go_at_call 43; refine (HF.out _ hbr).mono ?_; rintro e w1 ⟨rfl, hR⟩)
        go_ret
        rw [HNO.out]
        exact ⟨rfl, hR⟩
      · have hsz := textsBytes_len hxj
        have hsum := HS.out
        have hl1 : (Lib.byteCells (textsBytes (xs.take j))).length + 2 + x.size ≤ 140737488355328 := by rw [Lib.byteCells_length]; omega
        have E1 := Lib.hid (textsBytes_snoc hxj)
        have E2 := Lib.hid (allShort_snoc hxj HFIT.out (by omega))
        have E3 := Lib.hid (text_cells (textsBytes (xs.take j)) x (by omega))
        have HSZ := Lib.hid hl1
        have HB := Lib.hid hB
        have hxs : x.size ≤ 65535 := by omega
        clear hxj hmem hsz hsum hl1 hB hbig
        go_wp2_with fail
        refine (sb_byte w.heap.size w.heap.size _ _ _ HB.out (by have := HSZ.out; omega) hbr.size).mono ?_
        rintro e w1 ⟨rfl, hB1, hb1, _⟩
        have hbr1 := hbr.trans hb1
        have hcx1 : w1.cell? ⟨b, off + j, none⟩ = some (.string x) := (hb1.cell (p := ⟨b, off + j, none⟩) hbB).trans hcx
        have HB1 := Lib.hid hB1
        clear hB1 hb1 hbr hcx
        go_wp2_with fail
        refine (sb_byte w.heap.size w.heap.size _ _ _ (.inr HB1.out) (by have := HSZ.out; rw [List.length_append]; simp; omega) hbr1.size).mono ?_
        rintro e w2 ⟨rfl, hB2, hb2, _⟩
        have hbr2 := hbr1.trans hb2
        have hcx2 : w2.cell? ⟨b, off + j, none⟩ = some (.string x) := (hb2.cell (p := ⟨b, off + j, none⟩) hbB).trans hcx1
        have HB2 := Lib.hid hB2
        clear hB2 hb2 hbr1 hcx1
        go_wp2_with fail
        refine (sb_string w.heap.size w.heap.size _ x _ (.inr HB2.out) (by have := HSZ.out; rw [List.length_append, List.length_append]; simp; omega) hbr2.size).mono ?_
        rintro e w3 ⟨rfl, hB3, hb3, _⟩
        have hbr3 := hbr2.trans hb3
        have HB3 := Lib.hid hB3
        clear hB3 hb3 hbr2 hcx2
        go_wp2_with fail
        go_roundw
        case rel => exact ⟨j + 1, by omega, by go_num, E2.out, .inr (by rw [E1.out, ← E3.out]; exact HB3.out), hbr3⟩
        case measure => simp [intOf]; omega
    · obtain rfl : j = n := by omega
      have htk : xs.take j = xs := List.take_of_length_le (by rw [← HN.out]; exact Nat.le_refl _)
      rw [htk] at hB
      have HFIT2 := Lib.hid (show allShort xs = true by rw [← HFIT.out, htk])
      clear htk
      go_wp2_with (first
        | (go_at_call 47; refine (sb_text w.heap.size w.heap.size (textsBytes xs) _ hB hbr.size).mono ?_; rintro e w1 ⟨rfl, _, hb1, _⟩)
        | (go_at_call 46; refine (HL.out _ (hbr.trans hb1)).mono ?_; rintro e w2 ⟨rfl, hR⟩))
      go_ret
      rw [HFIT2.out]
      exact ⟨rfl, hR⟩
end Go.Proofs.YtdfickppfihiiaaDoor
