/-
  A room's sector as plain data: its bytes, what is read out of any bytes. No statement is proved here.
-/
import Derived.Test.YtbaanoomilohhaaGreatRoomMake
import Derived.Laws.BitsAllLaws
namespace Go.Proofs.YtbaanoomilohhaaGreat
open Go.RowKit

def bytesP (P : Nat → Bool) (m : Nat) : List UInt8 := (List.range m).map fun k => (byteP P k).toUInt8
theorem bytesP_length (P : Nat → Bool) (m : Nat) : (bytesP P m).length = m := by simp [bytesP]
def roomE (n : Nat) (H : List Int) : List UInt8 := lowBytes 1 6 ++ (lowBytes 2 n ++ bytesP (inP H) 238)
theorem roomE_length (n : Nat) (H : List Int) : (roomE n H).length = 241 := by
  unfold roomE
  rw [List.length_append, List.length_append, lowBytes_length, lowBytes_length, bytesP_length]
def roomT (n : Nat) (H : List Int) : List UInt8 := body 256 (roomE n H) ++ lowBytes 4 (crc (body 256 (roomE n H)))
theorem room_sealed (n : Nat) (H : List Int) : sealB 256 (roomE n H) = (roomT n H, 0) := sealB_ok (by omega) (by omega) (by rw [roomE_length]; omega)
theorem roomBody_length (n : Nat) (H : List Int) : (body 256 (roomE n H)).length = 252 := by
  have := body_length (n := 256) (l := roomE n H) (by rw [roomE_length]; omega)
  omega
theorem roomT_length (n : Nat) (H : List Int) : (roomT n H).length = 256 := by
  unfold roomT
  rw [List.length_append, roomBody_length, lowBytes_length]
theorem roomT_open (n : Nat) (H : List Int) : openB (roomT n H) = (body 256 (roomE n H), 0) := openB_back _

/-- Is the bit of a sector set, in a room's bytes? -/
def bitAt (l : List UInt8) (i : Nat) : Bool := (l.getD (3 + i / 8) 0).toNat / 2 ^ (i % 8) % 2 == 1
def bitsH (l : List UInt8) (m : Nat) : List Int := ((List.range m).filter (bitAt l)).map fun i : Nat => (i : Int)
theorem bitsH_ok (l : List UInt8) {m n : Nat} (h : m ≤ n) : HOk n (bitsH l m) := by
  refine ⟨?_, fun x hx => ?_⟩
  · unfold bitsH
    rw [List.pairwise_map]
    refine (List.Pairwise.filter _ List.pairwise_lt_range).imp ?_
    intro a b h
    omega
  · obtain ⟨i, hi, rfl⟩ := List.mem_map.1 hx
    have := List.mem_range.1 (List.mem_filter.1 hi).1
    omega
theorem bitsH_snoc (l : List UInt8) (m : Nat) : bitsH l (m + 1) = if bitAt l m = true then bitsH l m ++ [(m : Int)] else bitsH l m := by
  unfold bitsH
  rw [List.range_succ, List.filter_append, List.map_append]
  simp only [List.filter_cons, List.filter_nil]
  split <;> simp
theorem putL_last : ∀ (l : List Int) (x : Int), (∀ y ∈ l, y < x) → putL x l = l ++ [x]
  | [], _, _ => rfl
  | y :: r, x, h => by
    unfold putL
    rw [if_pos (h y (by simp)), putL_last r x (fun z hz => h z (by simp [hz]))]
    rfl
theorem bitsH_put (l : List UInt8) (m : Nat) : bitsH l (m + 1) = if bitAt l m = true then putL (m : Int) (bitsH l m) else bitsH l m := by
  rw [bitsH_snoc]
  split
  · rw [putL_last _ _ (fun y hy => ((bitsH_ok l (Nat.le_refl m)).range y hy).2)]
  · rfl
theorem bitsH_few (l : List UInt8) (m : Nat) : (bitsH l m).length ≤ m := (bitsH_ok l (Nat.le_refl m)).few

/-- A bit of a byte of the bits. -/
theorem byteP_div (P : Nat → Bool) (k j : Nat) (hj : j < 8) : (byteP P k / 2 ^ j % 2 == 1) = P (k * 8 + j) := by
  have h1 := byteP_bit P k j hj
  rw [nat_bit] at h1
  have hp : 0 < 2 ^ j := Nat.two_pow_pos j
  cases hP : P (k * 8 + j) with
  | true =>
    rw [hP] at h1
    have h2 : byteP P k / 2 ^ j % 2 * 2 ^ j = 1 * 2 ^ j := by rw [h1, Nat.one_mul]; rfl
    have h3 := Nat.eq_of_mul_eq_mul_right hp h2
    rw [h3]
    rfl
  | false =>
    rw [hP] at h1
    have h2 : byteP P k / 2 ^ j % 2 * 2 ^ j = 0 * 2 ^ j := by rw [h1, Nat.zero_mul]; rfl
    have h3 := Nat.eq_of_mul_eq_mul_right hp h2
    rw [h3]
    rfl
theorem roomBody_byte (n : Nat) (H : List Int) {k : Nat} (hk : k < 238) : (body 256 (roomE n H)).getD (3 + k) 0 = (byteP (inP H) k).toUInt8 := by
  unfold body
  rw [List.getD_eq_getElem?_getD, List.getElem?_append_left (by rw [roomE_length]; omega)]
  unfold roomE
  rw [List.getElem?_append_right (by rw [lowBytes_length]; omega), lowBytes_length, List.getElem?_append_right (by rw [lowBytes_length]; omega), lowBytes_length]
  unfold bytesP
  rw [List.getElem?_map, show 3 + k - 1 - 2 = k by omega, List.getElem?_range hk]
  rfl
theorem roomBody_bit {n : Nat} (H : List Int) (hn : n ≤ 1900) {i : Nat} (hi : i < n) : bitAt (body 256 (roomE n H)) i = inP H i := by
  unfold bitAt
  rw [roomBody_byte n H (by omega)]
  have hb := byteP_lt (inP H) (i / 8)
  rw [show (byteP (inP H) (i / 8)).toUInt8.toNat = byteP (inP H) (i / 8) by rw [UInt8.toNat_ofNat', Nat.mod_eq_of_lt hb], byteP_div _ _ _ (by omega), i8]
theorem roomBody_bits {n : Nat} {H : List Int} (ho : HOk n H) (hn : n ≤ 1900) : bitsH (body 256 (roomE n H)) n = H := by
  have : (List.range n).filter (bitAt (body 256 (roomE n H))) = (List.range n).filter (inP H) := by
    refine List.filter_congr fun i hi => ?_
    exact roomBody_bit H hn (List.mem_range.1 hi)
  unfold bitsH
  rw [this]
  exact all_list ho
/-- How many sectors the bytes speak of. -/
def sizeN (l : List UInt8) : Nat := low ((l.drop 1).take 2)
theorem sizeN_lt (l : List UInt8) : sizeN l < 65536 := by
  refine Nat.lt_of_lt_of_le (low_lt _) ?_
  refine Nat.le_trans (Nat.pow_le_pow_right (by omega) (show _ ≤ 2 from ?_)) (by decide)
  rw [List.length_take]
  omega
theorem roomBody_size {n : Nat} (H : List Int) (hn : n ≤ 1900) : sizeN (body 256 (roomE n H)) = n := by
  unfold sizeN body roomE
  rw [List.append_assoc, List.append_assoc, List.drop_left' (lowBytes_length _ _), List.take_left' (lowBytes_length _ _), low_lowBytes, Nat.mod_eq_of_lt (by omega)]

/-- What is read out of any bytes: how many sectors, those in use, and the error. -/
def readR (b : List UInt8) : Nat × List Int × Int :=
  if b.length ≠ 256 then (0, [], 5)
  else if (openB b).2 ≠ 0 then (0, [], (openB b).2)
  else if ¬ (1 ≤ sizeN (openB b).1 ∧ sizeN (openB b).1 ≤ 1900) then (0, [], 6)
  else if roomT (sizeN (openB b).1) (bitsH (openB b).1 (sizeN (openB b).1)) = b then (sizeN (openB b).1, bitsH (openB b).1 (sizeN (openB b).1), 0)
  else (0, [], 6)
theorem readR_laid {n : Nat} {H : List Int} (ho : HOk n H) (h1 : 1 ≤ n) (hn : n ≤ 1900) : readR (roomT n H) = (n, H, 0) := by
  unfold readR
  rw [roomT_open]
  simp only
  rw [roomBody_size H hn, roomBody_bits ho hn, if_neg (by rw [roomT_length]; omega), if_neg (by decide), if_neg (by omega), if_pos rfl]

/-- The document's bits end with the last sector; behind them zero bytes stand either way. -/
theorem bytesP_zero {n : Nat} {H : List Int} (ho : HOk n H) {m m' : Nat} (h : n ≤ m * 8) (hm : m ≤ m') : bytesP (inP H) m' = bytesP (inP H) m ++ List.replicate (m' - m) 0 := by
  apply List.ext_getElem?
  intro k
  unfold bytesP
  rcases Nat.lt_or_ge k m with h' | h'
  · rw [List.getElem?_append_left (by simpa using h'), List.getElem?_map, List.getElem?_map, List.getElem?_range h', List.getElem?_range (by omega)]
  · rw [List.getElem?_append_right (by simpa using h'), List.length_map, List.length_range, List.getElem?_map, List.getElem?_replicate]
    rcases Nat.lt_or_ge k m' with h2 | h2
    · rw [List.getElem?_range h2, if_pos (by omega)]
      have : byteP (inP H) k = 0 := by
        rw [← byteP_false k]
        exact byteP_ext fun j hj => ho.off (by omega)
      simp only [Option.map_some]
      rw [this]
      rfl
    · rw [List.getElem?_eq_none (by simpa using h2), if_neg (by omega)]
      rfl
theorem room_doc {n : Nat} {H : List Int} (ho : HOk n H) (hn : n ≤ 1900) : sealB 256 (lowBytes 1 6 ++ lowBytes 2 n ++ bytesP (inP H) ((n + 7) / 8)) = (roomT n H, 0) := by
  have hl : (lowBytes 1 6 ++ lowBytes 2 n ++ bytesP (inP H) ((n + 7) / 8)).length = 3 + (n + 7) / 8 := by
    rw [List.length_append, List.length_append, lowBytes_length, lowBytes_length, bytesP_length]
  have hb : body 256 (lowBytes 1 6 ++ lowBytes 2 n ++ bytesP (inP H) ((n + 7) / 8)) = body 256 (roomE n H) := by
    unfold body
    rw [hl, roomE_length]
    unfold roomE
    rw [bytesP_zero ho (show n ≤ (n + 7) / 8 * 8 by omega) (show (n + 7) / 8 ≤ 238 by omega)]
    simp only [List.append_assoc]
    congr 3
    rw [List.replicate_append_replicate]
    congr 1
    omega
  rw [sealB_ok (by omega) (by omega) (by rw [hl]; omega), hb]
  rfl
end Go.Proofs.YtbaanoomilohhaaGreat
