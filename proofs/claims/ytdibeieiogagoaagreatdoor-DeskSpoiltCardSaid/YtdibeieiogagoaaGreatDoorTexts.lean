/-
  The writer's texts and bytes.
-/
import Derived.Test.YtdibeieiogagoaaGreatDoorIn
import Derived.Test.YtdibeieiogagoaaGreatDoorProg
import Derived.Test.YtdibeieiogagoaaGreatDoorRowOps
import Derived.BigQuiet
import Derived.Deep.QuietTactic
import Derived.Outline
import Derived.Test.YtdibeieiogagoaaGreatDoorTxts
namespace Go.Proofs.YtdibeieiogagoaaGreatDoor

/-- What was laid, and the error (0: none). -/
structure Wr where
  l : List UInt8
  e : Int
def Wr.lay (s : Wr) (b : List UInt8) : Wr := if s.e = 0 then ⟨s.l ++ b, 0⟩ else s
def Wr.fail (s : Wr) (c : Int) : Wr := if s.e = 0 then ⟨[], c⟩ else s

/-- The k lowest bytes of a number, the lowest first. -/
def lowBytes : Nat → Nat → List UInt8
  | 0, _ => []
  | k + 1, n => n.toUInt8 :: lowBytes k (n / 256)
/-- May n stand in k bytes? -/
def fits (k : Nat) (n : Int) : Bool := decide (0 ≤ n) && (n.toNat / 256 ^ k == 0)
def allFit (k : Nat) (l : List Int) : Bool := l.all (fits k)
def allBytes (k : Nat) (l : List Int) : List UInt8 := l.flatMap fun n => lowBytes k n.toNat
def Wr.nums (s : Wr) (k : Nat) (l : List Int) : Wr := if allFit k l = true then s.lay (allBytes k l) else s.fail 1

/-- A text, its length ahead. -/
def textBytes (t : ByteArray) : List UInt8 := lowBytes 2 t.size ++ t.data.toList
def allShort (l : List ByteArray) : Bool := l.all fun t => decide (t.size ≤ 65535)
def Wr.texts (s : Wr) (l : List ByteArray) : Wr := if allShort l = true then s.lay (l.flatMap textBytes) else s.fail 2
def Wr.raws (s : Wr) (l : List ByteArray) : Wr := s.lay (l.flatMap fun t => t.data.toList)
def Wr.pad (s : Wr) (n : Int) : Wr :=
  if n < 0 ∨ 65536 < n then s.fail 1
  else if n < (s.l.length : Int) then s.fail 2
  else s.lay (List.replicate (n.toNat - s.l.length) 0)
/-- Behind an error nothing is laid. -/
def Wr.ok (s : Wr) : Prop := s.e ≠ 0 → s.l = []

theorem lowBytes_length (k n : Nat) : (lowBytes k n).length = k := by
  induction k generalizing n with
  | zero => rfl
  | succ k ih => simp [lowBytes, ih]
theorem low_lowBytes (k n : Nat) : low (lowBytes k n) = n % 256 ^ k := by
  induction k generalizing n with
  | zero => simp [lowBytes, low, Nat.mod_one]
  | succ k ih =>
    have h : (n.toUInt8).toNat = n % 256 := by simp [Nat.toUInt8]
    simp only [lowBytes, low, ih, h, Nat.pow_succ]
    rw [Nat.mul_comm (256 ^ k) 256, Nat.mod_mul]
theorem lowBytes_snoc (k n : Nat) : lowBytes (k + 1) n = lowBytes k n ++ [(n / 256 ^ k).toUInt8] := by
  induction k generalizing n with
  | zero => simp [lowBytes]
  | succ k ih =>
    rw [lowBytes, ih, lowBytes, Nat.div_div_eq_div_mul, Nat.pow_succ, Nat.mul_comm 256]
    rfl
theorem allBytes_length (k : Nat) (l : List Int) : (allBytes k l).length = l.length * k := by
  unfold allBytes
  induction l with
  | nil => simp
  | cons x l ih => simp only [List.flatMap_cons, List.length_append, ih, lowBytes_length, List.length_cons, Nat.add_mul]; omega
theorem allBytes_snoc (k : Nat) (l : List Int) (x : Int) : allBytes k (l ++ [x]) = allBytes k l ++ lowBytes k x.toNat := by simp [allBytes]
theorem fits_eight (n : Int) (h0 : 0 ≤ n) (h1 : n ≤ 9223372036854775807) : fits 8 n = true := by
  unfold fits
  simp
  exact ⟨h0, by omega⟩
theorem fits_iff (k : Nat) (n : Int) : fits k n = true ↔ 0 ≤ n ∧ n < 256 ^ k := by
  unfold fits
  simp
  intro h
  have : 0 < 256 ^ k := Nat.pow_pos (by omega)
  have e : ((256 ^ k : Nat) : Int) = 256 ^ k := by simp
  omega
theorem pow_bytes (x : Int) (k : Nat) (h : 0 ≤ x) : x / 2 ^ (8 * k) = ((x.toNat / 256 ^ k : Nat) : Int) := by
  obtain ⟨n, rfl⟩ := Int.eq_ofNat_of_zero_le h
  have e : (256 : Nat) ^ k = 2 ^ (8 * k) := by rw [Nat.pow_mul]
  rw [Int.toNat_natCast, e]
  simp
theorem shr_fits (x : Int) (k : Nat) (h : 0 ≤ x) : (x / 2 ^ (8 * k) != 0) = !fits k x := by
  rw [pow_bytes x k h]
  unfold fits
  generalize x.toNat / 256 ^ k = y
  rw [decide_eq_true h, Bool.true_and]
  rw [Bool.eq_iff_iff]
  cases y with
  | zero => simp
  | succ y => simp; omega
theorem allFit_snoc (k : Nat) (l : List Int) (x : Int) : allFit k (l ++ [x]) = (allFit k l && fits k x) := by simp [allFit]
theorem allFit_no {k : Nat} {l : List Int} {x : Int} (h : x ∈ l) (hx : fits k x = false) : allFit k l = false := by
  unfold allFit
  rw [List.all_eq_false]
  exact ⟨x, h, by simp [hx]⟩
theorem Wr.ok_lay {s : Wr} (h : s.ok) (b : List UInt8) : (s.lay b).ok := by
  unfold Wr.lay; split
  · intro h0; exact absurd rfl h0
  · exact h
theorem Wr.ok_fail {s : Wr} (h : s.ok) (c : Int) : (s.fail c).ok := by
  unfold Wr.fail; split
  · intro _; rfl
  · exact h
theorem Wr.ok_nums {s : Wr} (h : s.ok) (k : Nat) (l : List Int) : (s.nums k l).ok := by
  unfold Wr.nums; split
  · exact Wr.ok_lay h _
  · exact Wr.ok_fail h _
theorem Wr.ok_texts {s : Wr} (h : s.ok) (l : List ByteArray) : (s.texts l).ok := by
  unfold Wr.texts; split
  · exact Wr.ok_lay h _
  · exact Wr.ok_fail h _
theorem Wr.ok_raws {s : Wr} (h : s.ok) (l : List ByteArray) : (s.raws l).ok := Wr.ok_lay h _
theorem Wr.ok_pad {s : Wr} (h : s.ok) (n : Int) : (s.pad n).ok := by
  unfold Wr.pad; split
  · exact Wr.ok_fail h _
  · split
    · exact Wr.ok_fail h _
    · exact Wr.ok_lay h _
theorem Wr.len_lay (s : Wr) (b : List UInt8) : (s.lay b).l.length ≤ s.l.length + b.length := by
  unfold Wr.lay; split <;> simp
theorem Wr.len_fail (s : Wr) (c : Int) : (s.fail c).l.length ≤ s.l.length := by
  unfold Wr.fail; split <;> simp
theorem Wr.len_nums (s : Wr) (k : Nat) (l : List Int) : (s.nums k l).l.length ≤ s.l.length + l.length * k := by
  unfold Wr.nums; split
  · have := s.len_lay (allBytes k l); rw [allBytes_length] at this; exact this
  · have := s.len_fail 1; omega
end Go.Proofs.YtdibeieiogagoaaGreatDoor

namespace Go.Proofs.YtdibeieiogagoaaGreatDoor
open Go.RowKit

/-- The parts that a writer in block o has laid, the latest first: each its block and its bytes. -/
def Chain (w : World) (o : Nat) : Option Addr → List (Nat × ByteArray) → Prop
  | p, [] => p = none
  | p, (q, s) :: r => p = some ⟨q, 0, none⟩ ∧ q ≠ o ∧ 0 < s.size ∧ ∃ p', Blk w q 177 #[.pointer p', .string s] ∧ Chain w o p' r
def cat : List (Nat × ByteArray) → List UInt8
  | [] => []
  | (_, s) :: r => cat r ++ s.data.toList
/-- The writer in block o has laid just s. -/
def OutAt (w : World) (o : Nat) (s : Wr) : Prop :=
  ∃ (p : Option Addr) (r : List (Nat × ByteArray)), Blk w o 150 #[.pointer p, .int .i64 s.l.length, .int .i64 s.e] ∧ Chain w o p r ∧ cat r = s.l

theorem Chain.grown {w w' : World} {o : Nat} (hg : w.grownBy w' (some o)) : ∀ {r : List (Nat × ByteArray)} {p : Option Addr}, Chain w o p r → Chain w' o p r
  | [], _, h => h
  | (q, s) :: r, p, ⟨h1, h2, h3, p', h4, h5⟩ => ⟨h1, h2, h3, p', h4.grown hg (by simpa using h2), Chain.grown hg h5⟩
theorem OutAt.lt {w : World} {o : Nat} {s : Wr} (h : OutAt w o s) : o < w.heap.size := by
  obtain ⟨_, _, h, _⟩ := h
  exact h.lt
/-- A writer stays as it is while another block is written. -/
theorem OutAt.below {w w' : World} {o : Nat} {s : Wr} (h : OutAt w o s) (hb : Below w.heap.size w w') : OutAt w' o s := by
  obtain ⟨p, r, h1, h2, h3⟩ := h
  exact ⟨p, r, h1.below hb h1.lt, h2.grown (by_below hb (Nat.le_refl _)), h3⟩
theorem OutAt.new (w : World) : OutAt (w.alloc (.cells #[.pointer none, .int .i64 0, .int .i64 0] 150)) w.heap.size ⟨[], 0⟩ :=
  ⟨none, [], Blk.new _ _ _, rfl, rfl⟩

set_option maxHeartbeats 400000 in
theorem fail_nil (c : Int) (w : World) :
    Calls Tryz.prog 158 #[.pointer none, .int .i64 c] w fun e w' => e = .returned (.pointer none) ∧ w = w' := by
  go_enter Tryz.func158, Tryz.ntmps158
  go_wp2
  go_ret
  exact ⟨rfl, rfl⟩

set_option maxHeartbeats 400000 in
theorem fail_any (o : Nat) (s : Wr) (c : Int) (w : World) (h : OutAt w o s) :
    Calls Tryz.prog 158 #[.pointer (some ⟨o, 0, none⟩), .int .i64 c] w fun e w' => e = .returned (.pointer (some ⟨o, 0, none⟩)) ∧ OutAt w' o (s.fail c) ∧ w.grownBy w' (some o) := by
  have H := Lib.hid h
  obtain ⟨p, r, h1, h2, h3⟩ := h
  have c0 := h1.cell 0
  have c1 := h1.cell 1
  have c2 := h1.cell 2
  have f0 := h1.frozen 0
  have f1 := h1.frozen 1
  have f2 := h1.frozen 2
  have hl := h1.lt
  simp at c0 c1 c2
  have H1 := Lib.hid h1
  clear h1 h2 h3
  by_cases he : s.e = 0
  · have R : s.fail c = ⟨[], c⟩ := by unfold Wr.fail; rw [if_pos he]
    rw [R]
    clear R
    rw [he] at c2
    clear he
    go_enter Tryz.func158, Tryz.ntmps158
    go_wp2
    go_ret
    exact ⟨rfl, ⟨none, [], ((H1.out.put 0 _).put 1 _).put 2 _, rfl, rfl⟩, by_put (by_put (by_put (by_refl _ _) _ _) _ _) _ _⟩
  · have R : s.fail c = s := by unfold Wr.fail; rw [if_neg he]
    rw [R]
    clear R
    have hc : (s.e == 0) = false := beq_eq_false_iff_ne.2 he
    go_enter Tryz.func158, Tryz.ntmps158
    go_wp2
    go_ret
    exact ⟨rfl, H.out, by_refl _ _⟩

set_option maxHeartbeats 400000 in
theorem lay_nil (b : ByteArray) (w : World) :
    Calls Tryz.prog 131 #[.pointer none, .string b] w fun e w' => e = .returned (.pointer none) ∧ w = w' := by
  go_enter Tryz.func131, Tryz.ntmps131
  go_wp2
  go_ret
  exact ⟨rfl, rfl⟩

set_option maxHeartbeats 400000 in
theorem lay_any (o : Nat) (s : Wr) (b : ByteArray) (w : World) (h : OutAt w o s) (hn : s.l.length + b.size ≤ 9223372036854775807) :
    Calls Tryz.prog 131 #[.pointer (some ⟨o, 0, none⟩), .string b] w fun e w' => e = .returned (.pointer (some ⟨o, 0, none⟩)) ∧ OutAt w' o (s.lay b.data.toList) ∧ w.grownBy w' (some o) := by
  have H := Lib.hid h
  obtain ⟨p, r, h1, h2, h3⟩ := h
  have c0 := h1.cell 0
  have c1 := h1.cell 1
  have c2 := h1.cell 2
  have f0 := h1.frozen 0
  have f1 := h1.frozen 1
  have f2 := h1.frozen 2
  have hl := h1.lt
  simp at c0 c1 c2
  have H1 := Lib.hid h1
  have H2 := Lib.hid h2
  have H3 := Lib.hid h3
  clear h1 h2 h3
  by_cases he : s.e = 0
  · by_cases hb : b.size = 0
    · have hbl : b = .empty := by
        apply ByteArray.ext
        exact Array.eq_empty_of_size_eq_zero hb
      subst hbl
      have R : s.lay ByteArray.empty.data.toList = s := by unfold Wr.lay; rw [if_pos he]; cases s; simp at he ⊢; exact he.symm
      rw [R]
      clear R
      go_enter Tryz.func131, Tryz.ntmps131
      go_wp2
      go_ret
      exact ⟨rfl, H.out, by_refl _ _⟩
    · have R : s.lay b.data.toList = ⟨s.l ++ b.data.toList, 0⟩ := by unfold Wr.lay; rw [if_pos he]
      rw [R]
      clear R
      rw [he] at c2
      have HE := Lib.hid he
      clear he
      have hne : b.toList.isEmpty = false := by
        rw [Lib.toList_data]
        cases hl : b.data.toList with
        | nil => exact absurd (by rw [Lib.size_eq, hl]; rfl) hb
        | cons _ _ => rfl
      have hpos : 0 < b.size := by omega
      clear hb
      go_enter Tryz.func131, Tryz.ntmps131
      go_wp2
      go_ret
      have k1 := ((H1.out.put 0 (.pointer (some ⟨w.heap.size, 0, none⟩))).put 1 (.int .i64 (s.l.length + b.size))).alloc (.cells #[.pointer p, .string b] 177)
      have k2 := by_alloc (by_put (by_put (by_refl w (some o)) 0 (.pointer (some ⟨w.heap.size, 0, none⟩))) 1 (.int .i64 (s.l.length + b.size))) (.cells #[.pointer p, .string b] 177)
      refine ⟨rfl, ⟨some ⟨w.heap.size, 0, none⟩, (w.heap.size, b) :: r, ?_, ⟨rfl, by omega, hpos, p, ?_, H2.out.grown k2⟩, by rw [cat, H3.out]⟩, k2⟩
      · have e : (((s.l ++ b.data.toList).length : Nat) : Int) = s.l.length + b.size := by rw [List.length_append, ← Lib.size_eq]; simp
        rw [show (Wr.mk (s.l ++ b.data.toList) 0).l = s.l ++ b.data.toList from rfl, e]
        rw [HE.out] at k1
        exact k1
      · have := Blk.new ((w.setCell ⟨o, 0, none⟩ (.pointer (some ⟨w.heap.size, 0, none⟩))).setCell ⟨o, 1, none⟩ (.int .i64 (s.l.length + b.size))) 177 #[.pointer p, .string b]
        simpa using this
  · have R : s.lay b.data.toList = s := by unfold Wr.lay; rw [if_neg he]
    rw [R]
    clear R
    have hc : (s.e != 0) = true := by rw [bne_iff_ne]; exact he
    go_enter Tryz.func131, Tryz.ntmps131
    go_wp2
    go_ret
    exact ⟨rfl, H.out, by_refl _ _⟩
end Go.Proofs.YtdibeieiogagoaaGreatDoor

namespace Go.Proofs.YtdibeieiogagoaaGreatDoor
open Go.RowKit

/-- All texts with their lengths, of all texts bytes alone. -/
def textsBytes (l : List ByteArray) : List UInt8 := l.flatMap textBytes
theorem textsBytes_snoc {l : List ByteArray} {j : Nat} {x : ByteArray} (h : l[j]? = some x) : textsBytes (l.take (j + 1)) = textsBytes (l.take j) ++ textBytes x := by
  rw [List.take_add_one, h]; simp [textsBytes]
theorem textsBytes_len {l : List ByteArray} {j : Nat} {x : ByteArray} (h : l[j]? = some x) : (textsBytes (l.take j)).length + 2 + x.size ≤ (textsBytes l).length := by
  have e : textsBytes l = textsBytes (l.take (j + 1)) ++ textsBytes (l.drop (j + 1)) := by unfold textsBytes; rw [← List.flatMap_append, List.take_append_drop]
  rw [e, textsBytes_snoc h, List.length_append, List.length_append, textBytes, List.length_append, lowBytes_length, Lib.size_eq]
  omega
theorem allShort_snoc {l : List ByteArray} {j : Nat} {x : ByteArray} (h : l[j]? = some x) (h1 : allShort (l.take j) = true) (h2 : x.size ≤ 65535) : allShort (l.take (j + 1)) = true := by
  rw [List.take_add_one, h]
  unfold allShort at h1 ⊢
  simp [h2]
  simpa using h1
theorem allShort_no {l : List ByteArray} {x : ByteArray} (h : x ∈ l) (hx : 65535 < x.size) : allShort l = false := by
  unfold allShort
  rw [List.all_eq_false]
  exact ⟨x, h, by simp; omega⟩
/-- What three writes into a builder leave, as the bytes of one text. -/
theorem text_cells (l : List UInt8) (x : ByteArray) (h : x.size ≤ 65535) :
    Lib.byteCells l ++ [Value.int .u8 ((x.size : Int) % 256)] ++ [Value.int .u8 ((x.size : Int) / 256)] ++ Lib.strCells x = Lib.byteCells (l ++ textBytes x) := by
  have e : (x.size : Int) / 256 = ((x.size / 256 % 256 : Nat) : Int) := by omega
  rw [e]
  simp [Lib.byteCells, Lib.strCells, textBytes, lowBytes, Nat.toUInt8]

set_option maxRecDepth 100000 in
set_option maxHeartbeats 2000000 in
theorem raws_core (q : Option Addr) (A : Option Addr) (c : Nat) (xs : List ByteArray) (w : World) (hx : Txts w w.heap.size A xs) (hlen : xs.length ≤ 140737488351232) (hsum : (cats xs).length ≤ 140737488351232)
    (R : World → Prop)
    (hlay : ∀ w1, Below w.heap.size w w1 → Calls Tryz.prog 131 #[.pointer q, .string ⟨(cats xs).toArray⟩] w1 fun e w' => e = .returned (.pointer q) ∧ R w') :
    Calls Tryz.prog 105 #[.pointer q, .slice A xs.length c] w fun e w' => e = .returned (.pointer q) ∧ R w' := by
  have HX := Lib.hid hx
  have HL := Lib.hid hlay
  have HS := Lib.hid hsum
  clear hx hlay hsum
  obtain ⟨n, hn⟩ : ∃ n, n = xs.length := ⟨_, rfl⟩
  rw [← hn] at hlen ⊢
  have HN := Lib.hid hn
  clear hn
  go_enter Tryz.func105, Tryz.ntmps105
  go_wp2_with fail
  have hb0 : Lib.IsBuilderF 113 5 w.heap.size w.heap.size (Lib.byteCells []) (w.alloc (.cells #[.pointer none, .slice none 0 0] 113)) := Lib.IsBuilderF.of (Lib.fresh_isBuilder _ _ w)
  go_loopw [10] (fun i wr => ∃ j : Nat, j ≤ n ∧ i = .int .i64 j ∧ Lib.IsBuilderF 113 5 w.heap.size w.heap.size (Lib.byteCells (cats (xs.take j))) wr ∧ Below w.heap.size w wr)
    (fun i _ => n - (intOf i).toNat)
  case atStart => exact ⟨0, Nat.zero_le _, rfl, by simpa [cats] using hb0, (Below.refl _ _).alloc (Nat.le_refl _) _⟩
  case round =>
    obtain ⟨j, hj, rfl, hB, hbr⟩ := hrel
    clear hb0
    by_cases hlt : j < n
    · have hxl : j < xs.length := by rw [← HN.out]; exact hlt
      obtain ⟨b, off, hA, hbB, hc⟩ := HX.out (by omega)
      obtain ⟨x, hx⟩ : ∃ x, x = xs[j] := ⟨_, rfl⟩
      have hxj : xs[j]? = some x := by rw [hx]; exact List.getElem?_eq_getElem hxl
      have hcx : wr.cell? ⟨b, off + j, none⟩ = some (.string x) := (hbr.cell (p := ⟨b, off + j, none⟩) hbB).trans (hc j x hxj)
      have hsz := cats_len hxj
      have hsum := HS.out
      have e1 := cats_snoc hxj
      have HB := Lib.hid hB
      have hl1 : (Lib.byteCells (cats (xs.take j))).length + x.size ≤ 140737488355328 := by rw [Lib.byteCells_length]; omega
      have E1 := Lib.hid e1
      have HSZ := Lib.hid hl1
      clear hxj hc hx hsz hsum e1 hB hl1
      subst hA
      go_wp2_with (go_at_call 78; refine (sb_string w.heap.size w.heap.size _ x _ HB.out HSZ.out hbr.size).mono ?_; rintro e w1 ⟨rfl, hB1, hb1, _⟩)
      go_roundw
      case rel => exact ⟨j + 1, by omega, by go_num, .inr (by rw [E1.out]; simpa [Lib.byteCells, Lib.strCells] using hB1), hbr.trans hb1⟩
      case measure => simp [intOf]; omega
    · obtain rfl : j = n := by omega
      have htk : xs.take j = xs := List.take_of_length_le (by rw [← HN.out]; exact Nat.le_refl _)
      rw [htk] at hB
      clear htk
      go_wp2_with (first
        | (go_at_call 80; refine (sb_text w.heap.size w.heap.size (cats xs) _ hB hbr.size).mono ?_; rintro e w1 ⟨rfl, _, hb1, _⟩)
        | (go_at_call 131; refine (HL.out _ (hbr.trans hb1)).mono ?_; rintro e w2 ⟨rfl, hR⟩))
      go_ret
      exact ⟨rfl, hR⟩

end Go.Proofs.YtdibeieiogagoaaGreatDoor
