/-
  What was laid is read as it was: plain lists of bytes, no Go, no memory. No statement is proved here.
-/
import Derived.Test.YtbaanoomilohhaaGreatDoorOutPure
import Derived.Test.YtbaanoomilohhaaGreatDoorTexts
namespace Go.Proofs.YtbaanoomilohhaaGreatDoor

/-- Bytes as a text. -/
def bs (l : List UInt8) : ByteArray := ⟨l.toArray⟩
theorem bs_list (l : List UInt8) : (bs l).data.toList = l := by simp [bs]
theorem bs_size (l : List UInt8) : (bs l).size = l.length := by rw [Lib.size_eq, bs_list]
theorem list_bs (s : ByteArray) : bs s.data.toList = s := by
  apply ByteArray.ext
  simp [bs]
theorem bs_extract (l : List UInt8) (i j : Nat) : (bs l).extract i j = bs ((l.drop i).take (j - i)) := by
  have h := Lib.extract_eq (bs l) i j
  rw [bs_list] at h
  exact h
theorem take_bs (l r : List UInt8) (n : Nat) (hn : l.length = n) : (Rd.mk (bs (l ++ r)) 0).take n = (bs l, true, ⟨bs r, 0⟩) := by
  unfold Rd.take
  simp only [bs_size, List.length_append]
  rw [if_neg (by simp), if_neg (by omega), if_neg (by omega)]
  subst hn
  have e1 : (bs (l ++ r)).extract 0 l.length = bs l := by rw [bs_extract]; simp
  have e2 : (bs (l ++ r)).extract l.length (l.length + r.length) = bs r := by rw [bs_extract]; simp
  rw [Int.toNat_natCast, e1, e2]
theorem num_bs (k n : Nat) (r : List UInt8) (h : n < 256 ^ k) (h1 : n ≤ 9223372036854775807) : (Rd.mk (bs (lowBytes k n ++ r)) 0).num k = ((n : Int), (⟨bs r, 0⟩ : Rd)) := by
  unfold Rd.num
  rw [take_bs _ _ _ (lowBytes_length k n)]
  simp only [bs_list, low_lowBytes, Nat.mod_eq_of_lt h]
  rw [if_pos trivial, if_neg (by omega)]
theorem raw_bs (l r : List UInt8) (n : Nat) (hn : l.length = n) : (Rd.mk (bs (l ++ r)) 0).raw n = (bs l, ⟨bs r, 0⟩) := by
  unfold Rd.raw
  rw [take_bs _ _ _ hn]
theorem text_bs (s : ByteArray) (r : List UInt8) (h : s.size ≤ 65535) : (Rd.mk (bs (textBytes s ++ r)) 0).text = (s, ⟨bs r, 0⟩) := by
  unfold Rd.text textBytes
  rw [List.append_assoc, num_bs 2 s.size _ (by omega) (by omega)]
  rw [raw_bs _ _ _ (Lib.size_eq s).symm, list_bs]
theorem rest_bs (n : Nat) : (Rd.mk (bs (List.replicate n 0)) 0).rest = true := by
  unfold Rd.rest
  simp [bs]
theorem fin_bs (n : Nat) : (Rd.mk (bs (List.replicate n 0)) 0).fin = (0, ⟨bs (List.replicate n 0), 0⟩) := by
  unfold Rd.fin
  rw [if_pos (rest_bs n)]

theorem nums_ok (l : List UInt8) (k : Nat) (xs : List Int) (h : allFit k xs = true) : (Wr.mk l 0).nums k xs = ⟨l ++ allBytes k xs, 0⟩ := by
  unfold Wr.nums
  rw [if_pos h]
  rfl
theorem texts_ok (l : List UInt8) (xs : List ByteArray) (h : allShort xs = true) : (Wr.mk l 0).texts xs = ⟨l ++ textsBytes xs, 0⟩ := by
  unfold Wr.texts
  rw [if_pos h]
  rfl
theorem raws_ok (l : List UInt8) (xs : List ByteArray) : (Wr.mk l 0).raws xs = ⟨l ++ cats xs, 0⟩ := rfl
theorem pad_ok (l : List UInt8) (n : Nat) (h : l.length ≤ n) (h1 : n ≤ 65536) : (Wr.mk l 0).pad n = ⟨l ++ List.replicate (n - l.length) 0, 0⟩ := by
  unfold Wr.pad
  rw [if_neg (by omega), if_neg (by simp; omega)]
  rfl
theorem bs_append (s t : ByteArray) : bs (s.data.toList ++ t.data.toList) = s ++ t := by
  apply ByteArray.ext
  simp [bs]
theorem texts_two (s t : ByteArray) : textsBytes [s, t] = textBytes s ++ textBytes t := by simp [textsBytes]
theorem cats_two (s t : ByteArray) : cats [s, t] = s.data.toList ++ t.data.toList := by simp [cats]
theorem all_one (k : Nat) (n : Nat) : allBytes k [(n : Int)] = lowBytes k n := by simp [allBytes]
theorem all_two (k : Nat) (n m : Nat) : allBytes k [(n : Int), (m : Int)] = lowBytes k n ++ lowBytes k m := by simp [allBytes]
theorem fit_one {k n : Nat} (h : n < 256 ^ k) : allFit k [(n : Int)] = true := by
  simp only [allFit, List.all_cons, List.all_nil, Bool.and_true]
  rw [fits_iff]
  have : ((256 ^ k : Nat) : Int) = 256 ^ k := by simp
  omega
theorem fit_two {k n m : Nat} (h : n < 256 ^ k) (h' : m < 256 ^ k) : allFit k [(n : Int), (m : Int)] = true := by
  have h1 := fit_one h
  have h2 := fit_one h'
  simp only [allFit, List.all_cons, List.all_nil, Bool.and_true] at h1 h2 ⊢
  rw [h1, h2]
  rfl
theorem textBytes_len (s : ByteArray) : (textBytes s).length = 2 + s.size := by rw [textBytes, List.length_append, lowBytes_length, Lib.size_eq]
end Go.Proofs.YtbaanoomilohhaaGreatDoor
