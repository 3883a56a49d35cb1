/-
  The check sum's own calls: one byte's bits, all texts, whether texts have room.
-/
import Derived.Test.YtbaanoomilohhaaCrcPure
import Derived.Test.YtbaanoomilohhaaOuts
import Derived.Test.YtbaanoomilohhaaIn
namespace Go.Proofs.Ytbaanoomilohhaa
open Go.RowKit

theorem ret_u32 {a b : Int} (h : a = b) : Ending.returned (.int .u32 a) = .returned (.int .u32 b) := by rw [h]
theorem odd_bit (x : Nat) (h : x < 4294967296) : bits .and .u32 (x : Int) 1 = ((x % 2 : Nat) : Int) := by
  show bits .and .u32 (x : Int) ((1 : Nat) : Int) = _
  rw [u32_and_nat x 1 h (by omega), Nat.and_one_is_mod]
theorem half_cast (x : Nat) : (x : Int) / 2 = ((x / 2 : Nat) : Int) := by omega
theorem poly_cast (x : Nat) (h : x < 4294967296) : bits .xor .u32 (((x / 2 : Nat) : Int)) 3988292384 = (((x / 2) ^^^ 3988292384 : Nat) : Int) := u32_xor_nat (x / 2) 3988292384 (by omega) (by omega)
theorem shift1_odd {x : Nat} (h : x % 2 = 1) : shift1 x = (x / 2) ^^^ 3988292384 := by unfold shift1; rw [if_pos h]
theorem shift1_even {x : Nat} (h : ¬ x % 2 = 1) : shift1 x = x / 2 := by unfold shift1; rw [if_neg h]

theorem byte_cast (x : Nat) (b : UInt8) (h : x < 4294967296) : bits .xor .u32 (x : Int) ((b.toNat : Int) % 4294967296) = ((x ^^^ b.toNat : Nat) : Int) := by
  have hb := b.toNat_lt
  rw [Int.emod_eq_of_lt (by omega) (by omega), u32_xor_nat x b.toNat h (by omega)]
theorem fold_next {x : ByteArray} {k : Nat} (s : Nat) (hk : k < x.size) : crcFold s (x.data.toList.take (k + 1)) = crcByte (crcFold s (x.data.toList.take k)) x[k] := by
  rw [List.take_succ_eq_append_getElem (by rw [Array.length_toList]; exact hk), crcFold_snoc]
  rfl
theorem crcByte_shifts (x : Nat) (b : UInt8) : crcByte x b = shifts 8 (x ^^^ b.toNat) := rfl
theorem last_xor (x : Nat) (h : x < 4294967296) : bits .xor .u32 (x : Int) 4294967295 = ((x ^^^ 4294967295 : Nat) : Int) := by
  show bits .xor .u32 (x : Int) ((4294967295 : Nat) : Int) = _
  rw [u32_xor_nat x 4294967295 h (by omega)]
theorem crc_cats (l : List ByteArray) : ((crcFold 4294967295 (cats l) ^^^ 4294967295 : Nat) : Int) = (crc (cats l) : Int) := rfl

/-- Is there room for all bytes? -/
def roomB (n : Int) (l : List UInt8) : Bool := decide ((l.length : Int) ≤ n)

end Go.Proofs.Ytbaanoomilohhaa
