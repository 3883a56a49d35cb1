/-
  What stands behind bytes: the code's.
-/
import Derived.Test.YtokddfbjjghpkaaDoorOneHigh
namespace Go.Proofs.YtokddfbjjghpkaaDoor
open Go.RowKit

set_option maxRecDepth 100000 in
set_option maxHeartbeats 2000000 in
theorem opad_any (n : Nat) (w : World) (hn : n ≤ 1099511627776) :
    Calls Tryd.prog 22 #[.int .i64 n] w fun e w' => e = .returned (.string ⟨(padB n).toArray⟩) ∧ Below w.heap.size w w' := by
  obtain ⟨z, hz⟩ : ∃ z, z = zerosP n := ⟨_, rfl⟩
  have hz64 : z < 64 := by rw [hz]; exact zerosP_lt n
  have hm1 : Int.tmod (n : Int) 64 = ((n % 64 : Nat) : Int) := by rw [Int.tmod_eq_emod_of_nonneg (by omega)]; omega
  have hm2 : Int.tmod (119 - ((n % 64 : Nat) : Int)) 64 = (z : Int) := by rw [Int.tmod_eq_emod_of_nonneg (by omega), hz]; unfold zerosP; omega
  obtain ⟨q, hq⟩ : ∃ q, q = n % 64 := ⟨_, rfl⟩
  rw [← hq] at hm1 hm2
  have hq64 : q < 64 := by omega
  have HZ := Lib.hid hz
  clear hz hq
  obtain ⟨i0, hi, hz0, hz1, hz2⟩ := info_parts byte_info
  have hmk := run_makeSlice (P := Tryd.prog) (w := w) 31 5 i0 (.int .u8 0) Tryd.underlying31 hi hz0 .i64 .i64 (1 + (z : Int)) (1 + (z : Int) + 8) (by omega) (by omega) (by rw [hz1]; omega) (by rw [hz2]; omega) (by omega)
  have hmc : madeCells (Value.int .u8 0).cells ((1 + (z : Int) + 8).toNat * i0.size) = (List.replicate (z + 9) (Value.int .u8 0)).toArray := by
    rw [hz1, Nat.mul_one, show (1 + (z : Int) + 8).toNat = z + 9 by omega]
    refine Array.toList_inj.1 ?_
    rw [show (Value.int .u8 0).cells = #[Value.int .u8 0] from rfl, toList_madeCells_one]
  rw [hmc, show (1 + (z : Int)).toNat = z + 1 by omega, show (1 + (z : Int) + 8).toNat = z + 9 by omega] at hmk
  have b1 := Blk.new w 5 (List.replicate (z + 9) (Value.int .u8 0)).toArray
  have hb1 : Below w.heap.size w (w.alloc (.cells (List.replicate (z + 9) (Value.int .u8 0)).toArray 5)) := (Below.refl _ _).alloc (Nat.le_refl _) _
  obtain ⟨W1, hW1⟩ : ∃ W1, W1 = w.alloc (.cells (List.replicate (z + 9) (Value.int .u8 0)).toArray 5) := ⟨_, rfl⟩
  rw [← hW1] at hmk b1 hb1
  clear hW1 hmc
  have hc0 : W1.cell? ⟨w.heap.size, 0, none⟩ = some (.int .u8 0) := by rw [b1.cell, List.getElem?_toArray, List.getElem?_replicate, if_pos (by omega)]
  have hf0 := b1.frozen 0
  have HB1 := Lib.hid b1
  have HBB := Lib.hid hb1
  clear b1 hb1
  go_enter Tryd.func22, Tryd.ntmps22
  go_wp2_with fail
  have hown : (W1.setCell ⟨w.heap.size, 0, none⟩ (.int .u8 128)).ownsRow w.heap.size 5 1 (.slice (some ⟨w.heap.size, 0, none⟩) (z + 1) (z + 9)) (z + 1) (Lib.byteCells (128 :: List.replicate z 0)) := by
    refine ⟨by simp [Lib.byteCells], Or.inr ⟨w.heap.size, z + 9, _, rfl, Nat.le_refl _, HB1.out.put 0 _, by omega, by unfold maxLen; omega, by simp, ?_⟩⟩
    rw [List.setIfInBounds_toArray, List.toList_toArray, show z + 9 = (z + 8) + 1 by omega, List.replicate_succ, List.set_cons_zero, Nat.mul_one, List.take_succ_cons, List.take_replicate, Nat.min_eq_left (by omega)]
    simp [Lib.byteCells]
  have HOWN := Lib.hid hown
  have hbb : Below w.heap.size w (W1.setCell ⟨w.heap.size, 0, none⟩ (.int .u8 128)) := HBB.out.setCell (by simp) _
  have HB := Lib.hid hbb
  clear hown hbb hc0 hf0
  go_loopw [4, 24] (fun b i wr => ∃ j : Nat, j ≤ 8 ∧ i = .int .i64 j ∧ wr.ownsRow w.heap.size 5 1 b (z + 1 + j) (Lib.byteCells (128 :: (List.replicate z 0 ++ (highB (8 * n) 8).take j))) ∧ Below w.heap.size w wr) (fun _ i _ => 8 - (intOf i).toNat)
  case atStart => exact ⟨0, by omega, rfl, by simpa using HOWN.out, HB.out⟩
  case round =>
    clear HOWN HB
    obtain ⟨j, hj, rfl, hown, hbr⟩ := hrel
    have HOWN := Lib.hid hown
    clear hown
    by_cases hlt : j < 8
    · obtain ⟨N, hN⟩ : ∃ N, N = 8 * n := ⟨_, rfl⟩
      have hNI : (8 : Int) * (n : Int) = (N : Int) := by omega
      have HT := Lib.hid (highB_take (8 * n) 8 j hlt)
      rw [show 8 - 1 - j = 7 - j by omega, ← hN] at HT
      rw [← hN] at HOWN
      have HN := Lib.hid hN
      clear hN
      have HLL := Lib.hid (show (Lib.byteCells (128 :: (List.replicate z 0 ++ (highB N 8).take j))).length = z + 1 + j by rw [byteCells_len, List.length_cons, List.length_append, List.length_replicate, List.length_take, highB_length]; omega)
      go_wp2_with (at_builtin; refine wpList_append_lies _ rfl (.tmp 27) (.tmp 35) 31 rfl w.heap.size 5 i0 (.int .u8 0) 1 1 Tryd.underlying31 hi hz0 hz1 hz2 rfl (by omega) _ (z + 1 + j) _ rfl (HOWN.out.alloc _) ⟨wr.heap.size, 0, none⟩ 1 1 [.int .u8 ((N : Int) / 2 ^ (8 * (7 - j)) % 256)] rfl rfl ?c1 ?c2 (by omega) (by unfold maxLen; omega) (by omega) (by have := hbr.size; simp; omega) _ rfl ?_)
      case c1 =>
        intro a u ha
        match a, ha with
        | 0, ha => simp at ha; subst ha; simp [Addr.add]
      case c2 => intro u hu; simp at hu; subst hu; rfl
      intro g cap w1 hown1 hg1 hor hlt1
      have hb1 : Below w.heap.size w w1 := (hbr.alloc hbr.size _).grown hg1 (by have := hbr.size; simp; omega) (fun k hk => (HOWN.out.lt k hk).1)
      have HB2 := Lib.hid hb1
      rw [shr_byte N (8 * (7 - j)), byteCells_snoc, List.cons_append, List.append_assoc, ← HT.out, HN.out] at hown1
      have HOW := Lib.hid hown1
      clear hown1 hg1 hor hb1 hbr
      go_wp2
      go_roundw
      case rel => exact ⟨j + 1, by omega, by go_num, HOW.out, HB2.out⟩
      case measure => simp [intOf] <;> omega
    · obtain rfl : j = 8 := by omega
      have HOW3 := HOWN.out
      have ht : (highB (8 * n) 8).take 8 = highB (8 * n) 8 := List.take_of_length_le (by rw [highB_length]; exact Nat.le_refl _)
      rw [ht] at HOW3
      obtain ⟨g, cap, rfl, hg0, hlt1⟩ := HOW3.form (by omega)
      have hcv := row_text wr _ g cap _ (z + 1 + 8) (by simp [highB_length]) HOW3
      have HPd : Hid (padB n = 128 :: (List.replicate z 0 ++ highB (8 * n) 8)) := Lib.hid (by rw [HZ.out]; rfl)
      clear HOW3 ht
      go_wp2
      go_ret
      exact ⟨by rw [HPd.out]; rfl, hbr⟩
end Go.Proofs.YtokddfbjjghpkaaDoor
