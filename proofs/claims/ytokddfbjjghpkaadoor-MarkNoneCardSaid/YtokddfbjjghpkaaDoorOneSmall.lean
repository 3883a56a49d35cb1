/-
  Words turned, a round's choice, a word of four bytes: the code's and the document's.
-/
import Derived.Test.YtokddfbjjghpkaaDoorTxts
import Derived.Test.YtokddfbjjghpkaaDoorOnePure
import Derived.Laws.BitsAllLaws
import Derived.BigQuiet
import Derived.BigCall
import Derived.BigRegion
import Derived.Deep.QuietTactic
namespace Go.Proofs.YtokddfbjjghpkaaDoor
open Go.RowKit

theorem ret_word {a b : Int} (h : a = b) : Ending.returned (.int .u32 a) = .returned (.int .u32 b) := by rw [h]
theorem ret_pair {a b c d : Int} (h : a = b) (k : c = d) : Ending.returned (.tuple #[.int .u32 a, .int .u32 c]) = .returned (.tuple #[.int .u32 b, .int .u32 d]) := by rw [h, k]
theorem rot_word (x n p q : Nat) (P Q : Int) (hP : P = (p : Int)) (hQ : Q = (q : Int)) (hx : x < 4294967296) (hp : 2 ^ n = p) (hq : 2 ^ (32 - n) = q) :
    bits .or .u32 ((x : Int) * P % 4294967296) ((x : Int) / Q) = ((rotl x n : Nat) : Int) := by
  rw [hP, hQ]
  have e1 : (x : Int) * (p : Int) % 4294967296 = ((x * p % 4294967296 : Nat) : Int) := by
    rw [← Int.natCast_mul]
    generalize x * p = y
    omega
  have e2 : (x : Int) / (q : Int) = ((x / q : Nat) : Int) := (Int.natCast_ediv x q).symm
  rw [e1, e2, u32_or_nat _ _ (Nat.mod_lt _ (by decide)) (Nat.lt_of_le_of_lt (Nat.div_le_self _ _) hx)]
  unfold rotl
  rw [Nat.shiftLeft_eq, Nat.shiftRight_eq_div_pow, hp, hq]
theorem not_word (b : Nat) (hb : b < 4294967296) : bits .xor .u32 IntKind.u32.max (b : Int) = ((4294967295 ^^^ b : Nat) : Int) := u32_xor_nat 4294967295 b (by decide) hb
theorem byte_shl (b : UInt8) (n p : Nat) (P : Int) (hP : P = (p : Int)) (hp : 2 ^ n = p) (hn : n ≤ 24) : (b.toNat : Int) % 4294967296 * P % 4294967296 = ((b.toNat <<< n : Nat) : Int) ∧ b.toNat <<< n < 4294967296 := by
  have hb := byte_lt b
  have h2 : p ≤ 16777216 := by rw [← hp]; exact (Nat.pow_le_pow_right (n := 2) (by decide) hn : 2 ^ n ≤ 2 ^ 24)
  have h3 : b.toNat * p < 4294967296 := by
    have h4 : b.toNat * p ≤ 255 * p := Nat.mul_le_mul_right _ (by omega)
    omega
  have e : (b.toNat : Int) % 4294967296 = (b.toNat : Int) := by omega
  rw [e, hP, ← Int.natCast_mul, Nat.shiftLeft_eq, hp]
  generalize b.toNat * p = y at *
  omega
theorem word_cast (b0 b1 b2 b3 : UInt8) :
    bits .or .u32 (bits .or .u32 (bits .or .u32 ((b0.toNat : Int) % 4294967296 * 16777216 % 4294967296) ((b1.toNat : Int) % 4294967296 * 65536 % 4294967296)) ((b2.toNat : Int) % 4294967296 * 256 % 4294967296)) ((b3.toNat : Int) % 4294967296)
      = ((((b0.toNat <<< 24 ||| b1.toNat <<< 16) ||| b2.toNat <<< 8) ||| b3.toNat : Nat) : Int) := by
  obtain ⟨e0, l0⟩ := byte_shl b0 24 16777216 16777216 rfl (by decide) (by decide)
  obtain ⟨e1, l1⟩ := byte_shl b1 16 65536 65536 rfl (by decide) (by decide)
  obtain ⟨e2, l2⟩ := byte_shl b2 8 256 256 rfl (by decide) (by decide)
  have l3 : b3.toNat < 4294967296 := by have := byte_lt b3; omega
  have e3 : (b3.toNat : Int) % 4294967296 = (b3.toNat : Int) := by omega
  have g1 : b0.toNat <<< 24 ||| b1.toNat <<< 16 < 4294967296 := Nat.or_lt_two_pow (n := 32) l0 l1
  rw [e0, e1, e2, e3, u32_or_nat _ _ l0 l1, u32_or_nat _ _ g1 l2, u32_or_nat _ _ (Nat.or_lt_two_pow (n := 32) g1 l2) l3]

set_option maxHeartbeats 400000 in
theorem rot_any (x n : Nat) (w : World) (hx : x < 4294967296) (hn : n = 1 ∨ n = 5 ∨ n = 30) :
    Calls Tryd.prog 54 #[.int .u32 x, .int .i64 n] w fun e w' => e = .returned (.int .u32 (rotl x n)) ∧ w = w' := by
  rcases hn with rfl | rfl | rfl
  · have hb : bits .and .u64 1 31 = 1 := by decide +kernel
    go_enter Tryd.func54, Tryd.ntmps54
    go_wp2
    go_ret
    exact ⟨ret_word (rot_word x 1 2 2147483648 2 2147483648 rfl rfl hx rfl rfl), rfl⟩
  · have hb : bits .and .u64 5 31 = 5 := by decide +kernel
    go_enter Tryd.func54, Tryd.ntmps54
    go_wp2
    go_ret
    exact ⟨ret_word (rot_word x 5 32 134217728 32 134217728 rfl rfl hx rfl rfl), rfl⟩
  · have hb : bits .and .u64 30 31 = 30 := by decide +kernel
    go_enter Tryd.func54, Tryd.ntmps54
    go_wp2
    go_ret
    exact ⟨ret_word (rot_word x 30 1073741824 4 1073741824 4 rfl rfl hx rfl rfl), rfl⟩

set_option maxHeartbeats 800000 in
theorem choose_any (t b c d : Nat) (w : World) (hb : b < 4294967296) (hc : c < 4294967296) (hd : d < 4294967296) :
    Calls Tryd.prog 53 #[.int .i64 t, .int .u32 b, .int .u32 c, .int .u32 d] w fun e w' => e = .returned (.tuple #[.int .u32 (pickW t b c d), .int .u32 (kayW t)]) ∧ w = w' := by
  have hx : bits .xor .u32 (bits .xor .u32 (b : Int) (c : Int)) (d : Int) = ((b ^^^ c ^^^ d : Nat) : Int) := by
    rw [u32_xor_nat b c hb hc, u32_xor_nat _ d (Nat.xor_lt_two_pow (n := 32) hb hc) hd]
  have ha : bits .or .u32 (bits .and .u32 (b : Int) (c : Int)) (bits .and .u32 (bits .xor .u32 IntKind.u32.max (b : Int)) (d : Int)) = (((b &&& c) ||| ((4294967295 ^^^ b) &&& d) : Nat) : Int) := by
    rw [u32_and_nat b c hb hc, not_word b hb, u32_and_nat _ d (Nat.xor_lt_two_pow (n := 32) (by decide) hb) hd, u32_or_nat _ _ (Nat.and_lt_two_pow (n := 32) _ hc) (Nat.and_lt_two_pow (n := 32) _ hd)]
  have hm : bits .or .u32 (bits .or .u32 (bits .and .u32 (b : Int) (c : Int)) (bits .and .u32 (b : Int) (d : Int))) (bits .and .u32 (c : Int) (d : Int)) = ((((b &&& c) ||| (b &&& d)) ||| (c &&& d) : Nat) : Int) := by
    have g1 : b &&& c < 4294967296 := Nat.and_lt_two_pow (n := 32) _ hc
    have g2 : b &&& d < 4294967296 := Nat.and_lt_two_pow (n := 32) _ hd
    have g3 : c &&& d < 4294967296 := Nat.and_lt_two_pow (n := 32) _ hd
    rw [u32_and_nat b c hb hc, u32_and_nat b d hb hd, u32_and_nat c d hc hd, u32_or_nat _ _ g1 g2, u32_or_nat _ _ (Nat.or_lt_two_pow (n := 32) g1 g2) g3]
  have HX := Lib.hid hx
  have HA := Lib.hid ha
  have HM := Lib.hid hm
  clear hx ha hm hb hc hd
  by_cases h1 : t < 20
  · have HP : Hid (pickW t b c d = _ ∧ kayW t = _) := Lib.hid ⟨by unfold pickW; rw [if_pos h1], by unfold kayW; rw [if_pos h1]⟩
    go_enter Tryd.func53, Tryd.ntmps53
    go_wp2
    go_ret2
    exact ⟨ret_pair (HA.out.trans (congrArg Int.ofNat HP.out.1.symm)) (congrArg Int.ofNat HP.out.2.symm), rfl⟩
  · by_cases h2 : t < 40
    · have HP : Hid (pickW t b c d = _ ∧ kayW t = _) := Lib.hid ⟨by unfold pickW; rw [if_neg h1, if_pos h2], by unfold kayW; rw [if_neg h1, if_pos h2]⟩
      go_enter Tryd.func53, Tryd.ntmps53
      go_wp2
      go_ret2
      exact ⟨ret_pair (HX.out.trans (congrArg Int.ofNat HP.out.1.symm)) (congrArg Int.ofNat HP.out.2.symm), rfl⟩
    · by_cases h3 : t < 60
      · have HP : Hid (pickW t b c d = _ ∧ kayW t = _) := Lib.hid ⟨by unfold pickW; rw [if_neg h1, if_neg h2, if_pos h3], by unfold kayW; rw [if_neg h1, if_neg h2, if_pos h3]⟩
        go_enter Tryd.func53, Tryd.ntmps53
        go_wp2
        go_ret2
        exact ⟨ret_pair (HM.out.trans (congrArg Int.ofNat HP.out.1.symm)) (congrArg Int.ofNat HP.out.2.symm), rfl⟩
      · have HP : Hid (pickW t b c d = _ ∧ kayW t = _) := Lib.hid ⟨by unfold pickW; rw [if_neg h1, if_neg h2, if_neg h3], by unfold kayW; rw [if_neg h1, if_neg h2, if_neg h3]⟩
        go_enter Tryd.func53, Tryd.ntmps53
        go_wp2
        go_ret2
        exact ⟨ret_pair (HX.out.trans (congrArg Int.ofNat HP.out.1.symm)) (congrArg Int.ofNat HP.out.2.symm), rfl⟩

theorem getD_byte (s : ByteArray) (i : Nat) (h : i < s.size) : s.data.toList.getD i 0 = s[i] := by
  rw [List.getD_eq_getElem?_getD, List.getElem?_eq_getElem (by rw [← Lib.size_eq]; exact h)]
  rfl
end Go.Proofs.YtokddfbjjghpkaaDoor
