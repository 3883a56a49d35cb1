/-
  The document's own check sum, zero bytes and low bytes (package masonryref1).
-/
import Derived.Test.YtobeaibohmmgeaaCrcOf
import Derived.Deep.AppendLies
namespace Go.Proofs.Ytobeaibohmmgeaa
open Go.RowKit

theorem not_xor (x : Nat) (h : x < 4294967296) : bits .xor .u32 IntKind.u32.max (x : Int) = ((x ^^^ 4294967295 : Nat) : Int) := by
  show bits .xor .u32 ((4294967295 : Nat) : Int) (x : Int) = _
  rw [u32_xor_nat 4294967295 x (by omega) h, Nat.xor_comm]

set_option maxHeartbeats 1000000 in
theorem ref_crc (x : ByteArray) (w : World) (hx : x.size ≤ 140737488351232) :
    Calls Try.prog 16 #[.string x] w fun e w' => e = .returned (.int .u32 (crc x.data.toList)) ∧ w = w' := by
  go_enter Try.func16, Try.ntmps16
  go_wp2
  go_loop [3, 4] (fun v i => ∃ k : Nat, k ≤ x.size ∧ i = .int .i64 k ∧ v = .int .u32 (crcFold 4294967295 (x.data.toList.take k))) (fun _ i => x.size - (intOf i).toNat)
  case atStart => exact ⟨0, Nat.zero_le _, rfl, rfl⟩
  case round =>
    obtain ⟨k, hk, rfl, rfl⟩ := hrel
    have ht := crcFold_lt (x.data.toList.take k) (x := 4294967295) (by omega)
    by_cases hkx : k < x.size
    · have hf := fold_next 4294967295 hkx
      obtain ⟨t, ht0⟩ : ∃ t, t = crcFold 4294967295 (x.data.toList.take k) := ⟨_, rfl⟩
      rw [← ht0] at ht hf ⊢
      have HF := Lib.hid hf
      have hb := byte_cast t x[k] ht
      have hl := byte_xor_lt x[k] ht
      obtain ⟨y, hy⟩ : ∃ y, y = t ^^^ x[k].toNat := ⟨_, rfl⟩
      rw [← hy] at hb hl
      have HY := Lib.hid hy
      clear ht0 hf hy
      go_wp2_with fail
      clear hb
      go_loop [3, 5] (fun v i => ∃ j : Nat, j ≤ 8 ∧ i = .int .i64 j ∧ v = .int .u32 (shifts j y)) (fun _ i => 8 - (intOf i).toNat)
      case atStart => exact ⟨0, Nat.zero_le _, rfl, rfl⟩
      case round =>
        obtain ⟨j, hj, rfl, rfl⟩ := hrel
        by_cases hlt : j < 8
        · have hz := shifts_lt j hl
          have hs : shifts (j + 1) y = shift1 (shifts j y) := rfl
          have HS := Lib.hid hs
          clear hs
          generalize shifts j y = z at *
          by_cases ho : z % 2 = 1
          · have e1 : ((z : Int) % 2 == 1) = true := by rw [beq_iff_eq]; omega
            have HO := Lib.hid (shift1_odd ho)
            clear ho
            go_wp2
            go_round
            case rel => exact ⟨j + 1, by omega, by go_num, by rw [HS.out, HO.out, half_cast, poly_cast z hz]⟩
            case measure => simp [intOf]; omega
          · have e1 : ((z : Int) % 2 == 1) = false := by rw [beq_eq_false_iff_ne]; omega
            have HO := Lib.hid (shift1_even ho)
            clear ho
            go_wp2
            go_round
            case rel => exact ⟨j + 1, by omega, by go_num, by rw [HS.out, HO.out, half_cast]⟩
            case measure => simp [intOf]; omega
        · obtain rfl : j = 8 := by omega
          go_wp2
          go_round
          case rel => exact ⟨k + 1, by omega, by go_num, by rw [HF.out, crcByte_shifts, HY.out]⟩
          case measure => simp [intOf]; omega
    · have hk2 : x.data.toList.take k = x.data.toList := List.take_of_length_le (by rw [Array.length_toList]; show x.size ≤ k; omega)
      rw [hk2] at ht ⊢
      clear hk2
      go_wp2
      go_ret
      exact ⟨ret_u32 (not_xor _ ht), rfl⟩

/-- So many zero bytes. -/
def zeroB (n : Nat) : ByteArray := ⟨(List.replicate n 0).toArray⟩
theorem zeroB_list (n : Nat) : (zeroB n).data.toList = List.replicate n 0 := rfl
theorem zeroB_size (n : Nat) : (zeroB n).size = n := by show (List.replicate n (0 : UInt8)).toArray.size = n; simp
theorem zeros_make (w : World) (n : Nat) (h1 : n ≤ 70000) :
    (Instr.makeSlice 38 (.int .i64 n) (.int .i64 n)).run Try.prog w = .ok (.slice (some ⟨w.heap.size, 0, none⟩) n n) (w.alloc (.cells (Lib.byteCells (zeroB n).data.toList).toArray 5)) := by
  obtain ⟨i0, hi, hz0, hz1, hz2⟩ := info_parts byte_info
  have hr := run_makeSlice (P := Try.prog) w 38 5 i0 (.int .u8 0) Try.underlying38 hi hz0 .i64 .i64 n n (by omega) (Int.le_refl _) (by rw [hz1]; omega) (by rw [hz2]; omega) (by omega)
  have hc : madeCells (Value.int .u8 0).cells ((n : Int).toNat * i0.size) = (Lib.byteCells (zeroB n).data.toList).toArray := by
    rw [hz1, Nat.mul_one, zeroB_list]
    refine Array.toList_inj.1 ?_
    rw [show (Value.int .u8 0).cells = #[Value.int .u8 0] from rfl, toList_madeCells_one]
    simp [Lib.byteCells]
  rw [hc] at hr
  exact hr
theorem zeros_convert (w : World) (n : Nat) :
    (convert 38 9 (.slice (some ⟨w.heap.size, 0, none⟩) n n)).run Try.prog (w.alloc (.cells (Lib.byteCells (zeroB n).data.toList).toArray 5)) = .ok (.string (zeroB n)) (w.alloc (.cells (Lib.byteCells (zeroB n).data.toList).toArray 5)) := by
  have hl : (zeroB n).data.toList.length = n := by rw [zeroB_list, List.length_replicate]
  have hr := run_convert_bytes_back (P := Try.prog) (w.alloc (.cells (Lib.byteCells (zeroB n).data.toList).toArray 5)) 38 9 5 ⟨w.heap.size, 0, none⟩ (zeroB n).data.toList.length (zeroB n).data.toList Try.underlying38 Try.underlying5 Try.underlying9
    (fun j hj => by
      rw [Go.WideShapes.add_plain, (Blk.new w 5 (Lib.byteCells (zeroB n).data.toList).toArray).cell (0 + j)]
      simp [Lib.byteCells]
      exact ⟨(zeroB n).data[j]'(by simpa using hj), Array.getElem?_eq_getElem (by simpa using hj), rfl⟩)
  rw [hl] at hr
  exact hr

set_option maxHeartbeats 400000 in
theorem ref_zeros (n : Nat) (w : World) (h : n ≤ 70000) :
    Calls Try.prog 18 #[.int .i64 n] w fun e w' => e = .returned (.string (zeroB n)) ∧ Below w.heap.size w w' := by
  have hmk := zeros_make w n h
  have hcv := zeros_convert w n
  go_enter Try.func18, Try.ntmps18
  go_wp2_with fail
  go_ret
  exact ⟨rfl, (Below.refl _ _).alloc (Nat.le_refl _) _⟩

theorem low_cell (l : List UInt8) (m : Nat) : Lib.byteCells l ++ [Value.int .u8 ((m : Int) % 256)] = Lib.byteCells (l ++ lowBytes 1 m) := by
  simp [Lib.byteCells, lowBytes, Nat.toUInt8]
theorem lowBytes_more (j m : Nat) : lowBytes j m ++ lowBytes 1 (m / 256 ^ j) = lowBytes (j + 1) m := by
  rw [lowBytes_snoc j m]
  rfl
theorem low_div (j m : Nat) : m / 256 ^ (j + 1) = m / 256 ^ j / 256 := by rw [Nat.pow_succ, Nat.div_div_eq_div_mul]

set_option maxRecDepth 100000 in
set_option maxHeartbeats 2000000 in
theorem ref_lowbytes (m k : Nat) (w : World) (hm : m < 18446744073709551616) (hk0 : 0 < k) (hk : k ≤ 8) :
    Calls Try.prog 26 #[.int .u64 m, .int .i64 k] w fun e w' => e = .returned (.string ⟨(lowBytes k m).toArray⟩) ∧ Below w.heap.size w w' := by
  obtain ⟨i0, hi, hz0, hz1, hz2⟩ := info_parts byte_info
  go_enter Try.func26, Try.ntmps26
  go_wp2_with fail
  go_loopw [0, 5, 6] (fun x v i wr => ∃ j : Nat, j ≤ k ∧ i = .int .i64 j ∧ x = .int .u64 ((m / 256 ^ j : Nat) : Int) ∧ wr.ownsRow w.heap.size 5 1 v j (Lib.byteCells (lowBytes j m)) ∧ Below w.heap.size w wr) (fun _ _ i _ => k - (intOf i).toNat)
  case atStart => exact ⟨0, Nat.zero_le _, rfl, by simp, World.ownsRow_nil _ _ _ _, Below.refl _ _⟩
  case round =>
    obtain ⟨j, hj, rfl, rfl, hown, hbr⟩ := hrel
    by_cases hlt : j < k
    · have HJ := Lib.hid (low_div j m)
      have HL := Lib.hid (lowBytes_more j m)
      have HLL := Lib.hid (show (Lib.byteCells (lowBytes j m)).length = j by rw [Lib.byteCells_length, lowBytes_length])
      obtain ⟨M, hM⟩ : ∃ M, M = m / 256 ^ j := ⟨_, rfl⟩
      have hMl : M < 18446744073709551616 := by rw [hM]; exact Nat.lt_of_le_of_lt (Nat.div_le_self _ _) hm
      rw [← hM]
      have HM := Lib.hid hM
      clear hM hm
      have HOWN := Lib.hid hown
      clear hown
      go_wp2_with (at_builtin; refine wpList_append_lies _ rfl (.tmp 12) (.tmp 15) 38 rfl w.heap.size 5 i0 (.int .u8 0) 1 1 Try.underlying38 hi hz0 hz1 hz2 rfl (by omega) _ j _ rfl (HOWN.out.alloc _) ⟨wr.heap.size, 0, none⟩ 1 1 [.int .u8 ((M : Int) % 256)] rfl rfl ?c1 ?c2 (by omega) (by unfold maxLen; omega) (by omega) (by have := hbr.size; simp; omega) _ rfl ?_)
      case c1 =>
        intro a u ha
        match a, ha with
        | 0, ha => simp at ha; subst ha; simp [Addr.add]
      case c2 => intro u hu; simp at hu; subst hu; rfl
      intro g cap w1 hown1 hg1 hor hlt1
      have hb1 : Below w.heap.size w w1 := (hbr.alloc hbr.size _).grown hg1 (by have := hbr.size; simp; omega) (fun k hk => (HOWN.out.lt k hk).1)
      have HB1 := Lib.hid hb1
      rw [low_cell] at hown1
      have HOW := Lib.hid hown1
      clear hown1 hg1 hor hb1 hbr
      go_wp2
      go_roundw
      case rel => exact ⟨j + 1, by omega, by go_num, by rw [HJ.out, ← HM.out]; simp, by have h := HOW.out; rw [HM.out, HL.out] at h; exact h, HB1.out⟩
      case measure => simp [intOf]; omega
    · obtain rfl : j = k := by omega
      obtain ⟨g, cap, rfl, hg0, hlt1⟩ := hown.form hk0
      have hcv := run_convert_bytes_back (P := Try.prog) wr 38 9 5 ⟨g, 0, none⟩ cap (lowBytes j m) Try.underlying38 Try.underlying5 Try.underlying9
        (fun i hi => hown.cells (g := g) rfl i _ (by simp [Lib.byteCells, List.getElem?_eq_getElem hi]))
      rw [lowBytes_length] at hcv
      clear hown
      go_wp2
      go_ret
      exact ⟨rfl, hbr⟩
theorem ref_low4 (m : Nat) (w : World) (hm : m < 4294967296) :
    Calls Try.prog 26 #[.int .u64 m, .int .i64 4] w fun e w' => e = .returned (.string ⟨(lowBytes 4 m).toArray⟩) ∧ Below w.heap.size w w' :=
  ref_lowbytes m 4 w (by omega) (by omega) (by omega)
end Go.Proofs.Ytobeaibohmmgeaa
