/-
  What stands behind bytes: the document's own.
-/
import Derived.Test.YtpliknofjgbfjaaGreatDoorOneHigh
namespace Go.Proofs.YtpliknofjgbfjaaGreatDoor
open Go.RowKit

set_option maxRecDepth 100000 in
set_option maxHeartbeats 1000000 in
theorem refpad_out (n : Int) (w : World) (h : n < 0 ∨ 1099511627776 < n) :
    Calls Tryz.prog 52 #[.int .i64 n] w fun e w' => e = .returned (.string ⟨#[]⟩) ∧ w = w' := by
  by_cases hneg : n < 0
  · go_enter Tryz.func52, Tryz.ntmps52
    go_wp2_with fail
    go_ret
    exact ⟨rfl, rfl⟩
  · have hbig : 1099511627776 < n := by omega
    go_enter Tryz.func52, Tryz.ntmps52
    go_wp2_with fail
    go_ret
    exact ⟨rfl, rfl⟩

set_option maxRecDepth 100000 in
set_option maxHeartbeats 2000000 in
theorem refpad_any (n : Nat) (w : World) (hn : n ≤ 1099511627776) :
    Calls Tryz.prog 52 #[.int .i64 n] w fun e w' => e = .returned (.string ⟨(padB n).toArray⟩) ∧ Below w.heap.size w w' := by
  obtain ⟨z, hz⟩ : ∃ z, z = zerosP n := ⟨_, rfl⟩
  have hz64 : z < 64 := by rw [hz]; exact zerosP_lt n
  have hm1 : Int.tmod (n : Int) 64 = ((n % 64 : Nat) : Int) := by rw [Int.tmod_eq_emod_of_nonneg (by omega)]; omega
  have hm2 : Int.tmod (119 - ((n % 64 : Nat) : Int)) 64 = (z : Int) := by rw [Int.tmod_eq_emod_of_nonneg (by omega), hz]; unfold zerosP; omega
  obtain ⟨q, hq⟩ : ∃ q, q = n % 64 := ⟨_, rfl⟩
  rw [← hq] at hm1 hm2
  have hq64 : q < 64 := by omega
  obtain ⟨N, hN⟩ : ∃ N, N = 8 * n := ⟨_, rfl⟩
  have hNI : (8 : Int) * (n : Int) = (N : Int) := by omega
  have hNs : N ≤ 8796093022208 := by omega
  obtain ⟨Z, hZ⟩ : ∃ Z, Z = zeroB z := ⟨_, rfl⟩
  have hZs : Z.size = z := by rw [hZ]; exact zeroB_size z
  obtain ⟨B, hB⟩ : ∃ B : ByteArray, B = ⟨(highB N 8).toArray⟩ := ⟨_, rfl⟩
  have hBs : B.size = 8 := by rw [hB]; show (highB N 8).toArray.size = 8; simp [highB_length]
  obtain ⟨A, hA⟩ : ∃ A, A = (⟨#[128]⟩ : ByteArray) ++ Z := ⟨_, rfl⟩
  have hAs : A.size = z + 1 := by rw [hA, ByteArray.size_append, hZs]; show 1 + z = z + 1; omega
  have HR : Hid (A ++ B = ⟨(padB n).toArray⟩) := Lib.hid (by
    rw [hA, hB, hZ, hN, hz]
    apply ByteArray.ext
    rw [ByteArray.data_append, ByteArray.data_append]
    refine Array.toList_inj.1 ?_
    rw [Array.toList_append, Array.toList_append, zeroB_list]
    rfl)
  have HZ : Hid (∀ w, Calls Tryz.prog 40 #[.int .i64 (z : Int)] w fun e w' => e = .returned (.string Z) ∧ Below w.heap.size w w') := Lib.hid (fun w => by rw [hZ]; exact ref_zeros z w (by omega))
  have HB : Hid (∀ w, Calls Tryz.prog 55 #[.int .u64 (N : Int), .int .i64 8] w fun e w' => e = .returned (.string B) ∧ Below w.heap.size w w') := Lib.hid (fun w => by rw [hB]; exact high_any N 8 w (by omega) (by omega) (by omega))
  have ha : (⟨#[128]⟩ : ByteArray) ++ Z = A := hA.symm
  have hl1 : (⟨#[128]⟩ : ByteArray).size + Z.size ≤ 9223372036854775807 := by rw [hZs]; show 1 + z ≤ _; omega
  have hl2 : A.size + B.size ≤ 9223372036854775807 := by omega
  clear hz hq hN hZ hB hA hZs hBs hAs
  go_enter Tryz.func52, Tryz.ntmps52
  go_wp2_with (go_at_call 40; refine (HZ.out _).mono ?_; rintro e w1 ⟨rfl, hb1⟩)
  go_wp2_with (go_at_call 55; refine (HB.out _).mono ?_; rintro e w2 ⟨rfl, hb2⟩)
  go_wp2_with fail
  go_ret
  exact ⟨by rw [← HR.out]; rfl, hb1.trans (hb2.mono hb1.size)⟩
end Go.Proofs.YtpliknofjgbfjaaGreatDoor
