/-
  The check sum's own calls: one byte's bits, all texts, whether texts have room.
-/
import Derived.Test.YtnpmeolibdjgpaaGreatDoorCrcPure
import Derived.Test.YtnpmeolibdjgpaaGreatDoorOuts
import Derived.Test.YtnpmeolibdjgpaaGreatDoorIn
namespace Go.Proofs.YtnpmeolibdjgpaaGreatDoor
open Go.RowKit

theorem ret_u32 {a b : Int} (h : a = b) : Ending.returned (.int .u32 a) = .returned (.int .u32 b) := by rw [h]
theorem odd_bit (x : Nat) (h : x < 4294967296) : bits .and .u32 (x : Int) 1 = ((x % 2 : Nat) : Int) := by
  show bits .and .u32 (x : Int) ((1 : Nat) : Int) = _
  rw [u32_and_nat x 1 h (by omega), Nat.and_one_is_mod]
theorem half_cast (x : Nat) : (x : Int) / 2 = ((x / 2 : Nat) : Int) := by omega
theorem poly_cast (x : Nat) (h : x < 4294967296) : bits .xor .u32 (((x / 2 : Nat) : Int)) 3988292384 = (((x / 2) ^^^ 3988292384 : Nat) : Int) := u32_xor_nat (x / 2) 3988292384 (by omega) (by omega)
theorem shift1_odd {x : Nat} (h : x % 2 = 1) : shift1 x = (x / 2) ^^^ 3988292384 := by unfold shift1; rw [if_pos h]
theorem shift1_even {x : Nat} (h : ¬ x % 2 = 1) : shift1 x = x / 2 := by unfold shift1; rw [if_neg h]

set_option maxHeartbeats 400000 in
theorem step_any (x : Nat) (w : World) (hx : x < 4294967296) :
    Calls Tryz.prog 160 #[.int .u32 x] w fun e w' => e = .returned (.int .u32 (shifts 8 x)) ∧ w = w' := by
  go_enter Tryz.func160, Tryz.ntmps160
  go_wp2
  go_loop [0, 4] (fun v i => ∃ j : Nat, j ≤ 8 ∧ i = .int .i64 j ∧ v = .int .u32 (shifts j x)) (fun _ i => 8 - (intOf i).toNat)
  case atStart => exact ⟨0, Nat.zero_le _, rfl, rfl⟩
  case round =>
    obtain ⟨j, hj, rfl, rfl⟩ := hrel
    by_cases hlt : j < 8
    · have hy := shifts_lt j hx
      have hs : shifts (j + 1) x = shift1 (shifts j x) := rfl
      have HS := Lib.hid hs
      clear hs
      generalize shifts j x = y at *
      by_cases ho : y % 2 = 1
      · have e1 : (bits .and .u32 (y : Int) 1 != 0) = true := by rw [odd_bit y hy, ho]; rfl
        have HO := Lib.hid (shift1_odd ho)
        clear ho
        go_wp2
        go_round
        case rel => exact ⟨j + 1, by omega, by go_num, by rw [HS.out, HO.out, half_cast, poly_cast y hy]⟩
        case measure => simp [intOf]; omega
      · have e1 : (bits .and .u32 (y : Int) 1 != 0) = false := by rw [odd_bit y hy, show y % 2 = 0 by omega]; rfl
        have HO := Lib.hid (shift1_even ho)
        clear ho
        go_wp2
        go_round
        case rel => exact ⟨j + 1, by omega, by go_num, by rw [HS.out, HO.out, half_cast]⟩
        case measure => simp [intOf]; omega
    · obtain rfl : j = 8 := by omega
      go_wp2
      go_ret
      exact ⟨rfl, rfl⟩

theorem byte_cast (x : Nat) (b : UInt8) (h : x < 4294967296) : bits .xor .u32 (x : Int) ((b.toNat : Int) % 4294967296) = ((x ^^^ b.toNat : Nat) : Int) := by
  have hb := b.toNat_lt
  rw [Int.emod_eq_of_lt (by omega) (by omega), u32_xor_nat x b.toNat h (by omega)]
theorem fold_next {x : ByteArray} {k : Nat} (s : Nat) (hk : k < x.size) : crcFold s (x.data.toList.take (k + 1)) = crcByte (crcFold s (x.data.toList.take k)) x[k] := by
  rw [List.take_succ_eq_append_getElem (by rw [Array.length_toList]; exact hk), crcFold_snoc]
  rfl
theorem crcByte_shifts (x : Nat) (b : UInt8) : crcByte x b = shifts 8 (x ^^^ b.toNat) := rfl
theorem last_xor (x : Nat) (h : x < 4294967296) : bits .xor .u32 (x : Int) 4294967295 = ((x ^^^ 4294967295 : Nat) : Int) := by
  show bits .xor .u32 (x : Int) ((4294967295 : Nat) : Int) = _
  rw [u32_xor_nat x 4294967295 h (by omega)]
theorem crc_cats (l : List ByteArray) : ((crcFold 4294967295 (cats l) ^^^ 4294967295 : Nat) : Int) = (crc (cats l) : Int) := rfl

set_option maxRecDepth 100000 in
set_option maxHeartbeats 1000000 in
theorem of_any (A : Option Addr) (n c : Nat) (xs : List ByteArray) (w : World) (hn : xs.length = n) (hx : Txts w w.heap.size A xs) (hlen : xs.length ≤ 140737488351232) (hsz : ∀ x ∈ xs, x.size ≤ 140737488351232) :
    Calls Tryz.prog 119 #[.slice A n c] w fun e w' => e = .returned (.int .u32 (crc (cats xs))) ∧ w = w' := by
  have HX := Lib.hid hx
  have HZ := Lib.hid hsz
  rw [hn] at hlen
  have HN := Lib.hid hn
  clear hx hsz hn
  go_enter Tryz.func119, Tryz.ntmps119
  go_wp2
  go_loop [3, 9] (fun v i => ∃ j : Nat, j ≤ n ∧ i = .int .i64 j ∧ v = .int .u32 (crcFold 4294967295 (cats (xs.take j)))) (fun _ i => n - (intOf i).toNat)
  case atStart => exact ⟨0, Nat.zero_le _, rfl, rfl⟩
  case round =>
    obtain ⟨j, hj, rfl, rfl⟩ := hrel
    have hs := crcFold_lt (cats (xs.take j)) (x := 4294967295) (by omega)
    by_cases hlt : j < n
    · have hxl : j < xs.length := by rw [HN.out]; exact hlt
      obtain ⟨b, off, hA, hbB, hc⟩ := HX.out (by omega)
      obtain ⟨x, hx⟩ : ∃ x, x = xs[j] := ⟨_, rfl⟩
      have hxj : xs[j]? = some x := by rw [hx]; exact List.getElem?_eq_getElem hxl
      have hcx : w.cell? ⟨b, off + j, none⟩ = some (.string x) := hc j x hxj
      have hsx := HZ.out x (by rw [hx]; exact List.getElem_mem hxl)
      have E1 := Lib.hid (cats_snoc hxj)
      clear hxj hc hx
      subst hA
      obtain ⟨s, hs0⟩ : ∃ s, s = crcFold 4294967295 (cats (xs.take j)) := ⟨_, rfl⟩
      rw [← hs0] at hs ⊢
      have HS := Lib.hid hs0
      clear hs0
      go_wp2
      go_loop [3, 15] (fun v i => ∃ k : Nat, k ≤ x.size ∧ i = .int .i64 k ∧ v = .int .u32 (crcFold s (x.data.toList.take k))) (fun _ i => x.size - (intOf i).toNat)
      case atStart => exact ⟨0, Nat.zero_le _, rfl, rfl⟩
      case round =>
        obtain ⟨k, hk, rfl, rfl⟩ := hrel
        have ht := crcFold_lt (x.data.toList.take k) hs
        by_cases hkx : k < x.size
        · have hf := fold_next s hkx
          obtain ⟨t, ht0⟩ : ∃ t, t = crcFold s (x.data.toList.take k) := ⟨_, rfl⟩
          rw [← ht0] at ht hf ⊢
          have HF := Lib.hid hf
          have HB := Lib.hid (byte_cast t x[k] ht)
          have hl := byte_xor_lt x[k] ht
          clear ht0 hf
          go_wp2_with fail
          rw [HB.out]
          refine (step_any _ _ hl).mono ?_
          rintro e w1 ⟨rfl, rfl⟩
          go_wp2_with fail
          go_round
          case rel => exact ⟨k + 1, by omega, by go_num, by rw [HF.out, crcByte_shifts]⟩
          case measure => simp [intOf]; omega
        · have hk2 : x.data.toList.take k = x.data.toList := List.take_of_length_le (by rw [Array.length_toList]; show x.size ≤ k; omega)
          rw [hk2]
          clear hk2
          go_wp2
          go_round
          case rel => exact ⟨j + 1, by omega, by go_num, by rw [E1.out, crcFold_append, HS.out]⟩
          case measure => simp [intOf]; omega
    · obtain rfl : j = n := by omega
      have htk : xs.take j = xs := List.take_of_length_le (by rw [HN.out]; exact Nat.le_refl _)
      rw [htk] at hs ⊢
      have HL := Lib.hid (last_xor _ hs)
      clear htk
      go_wp2
      go_ret
      exact ⟨ret_u32 (by rw [HL.out, crc_cats]), rfl⟩

/-- Is there room for all bytes? -/
def roomB (n : Int) (l : List UInt8) : Bool := decide ((l.length : Int) ≤ n)

set_option maxHeartbeats 400000 in
theorem fit_any (n : Int) (A : Option Addr) (m c : Nat) (xs : List ByteArray) (w : World) (hm : xs.length = m) (hx : Txts w w.heap.size A xs) (hlen : xs.length ≤ 140737488351232) (hsz : ∀ x ∈ xs, x.size ≤ 140737488351232) (h0 : 0 ≤ n) (h1 : n ≤ 65536) :
    Calls Tryz.prog 115 #[.int .i64 n, .slice A m c] w fun e w' => e = .returned (.bool (roomB n (cats xs))) ∧ w = w' := by
  have HX := Lib.hid hx
  have HZ := Lib.hid hsz
  rw [hm] at hlen
  have HM := Lib.hid hm
  clear hx hsz hm
  go_enter Tryz.func115, Tryz.ntmps115
  go_wp2
  go_loop [0, 9] (fun v i => ∃ (j r : Nat), j ≤ m ∧ i = .int .i64 j ∧ v = .int .i64 r ∧ r + (cats (xs.take j)).length = n.toNat) (fun _ i => m - (intOf i).toNat)
  case atStart => exact ⟨0, n.toNat, Nat.zero_le _, rfl, by rw [Int.toNat_of_nonneg h0], by simp [cats]⟩
  case round =>
    obtain ⟨j, r, hj, rfl, rfl, hr⟩ := hrel
    have hrb : r ≤ 65536 := by omega
    have HR := Lib.hid hr
    clear hr
    by_cases hlt : j < m
    · have hxl : j < xs.length := by rw [HM.out]; exact hlt
      obtain ⟨b, off, hA, hbB, hc⟩ := HX.out (by omega)
      obtain ⟨x, hx⟩ : ∃ x, x = xs[j] := ⟨_, rfl⟩
      have hxj : xs[j]? = some x := by rw [hx]; exact List.getElem?_eq_getElem hxl
      have hcx : w.cell? ⟨b, off + j, none⟩ = some (.string x) := hc j x hxj
      have hsx := HZ.out x (by rw [hx]; exact List.getElem_mem hxl)
      have E1 := Lib.hid (cats_snoc hxj)
      have E2 := Lib.hid (cats_len hxj)
      clear hxj hc hx
      subst hA
      by_cases hbig : r < x.size
      · have hno : roomB n (cats xs) = false := decide_eq_false (by have := E2.out; have := HR.out; omega)
        have HNO := Lib.hid hno
        clear hno
        go_wp2
        go_ret
        rw [HNO.out]
        exact ⟨rfl, rfl⟩
      · have hsm : x.size ≤ r := by omega
        clear hbig
        go_wp2
        go_round
        case rel => exact ⟨j + 1, r - x.size, by omega, by go_num, by rw [Int.ofNat_sub hsm], by rw [E1.out, List.length_append, ← Lib.size_eq]; have := HR.out; omega⟩
        case measure => simp [intOf]; omega
    · obtain rfl : j = m := by omega
      have htk : xs.take j = xs := List.take_of_length_le (by rw [HM.out]; exact Nat.le_refl _)
      have hyes : roomB n (cats xs) = true := decide_eq_true (by have := HR.out; rw [htk] at this; omega)
      have HYES := Lib.hid hyes
      clear htk hyes
      go_wp2
      go_ret
      rw [HYES.out]
      exact ⟨rfl, rfl⟩
end Go.Proofs.YtnpmeolibdjgpaaGreatDoor
