/-
  Numbers in bytes, the highest first; what stands behind bytes: the document's own.
-/
import Derived.Test.YtpliknofjgbfjaaGreatDoorOneSmall
import Derived.Test.YtpliknofjgbfjaaGreatDoorBytes
import Derived.Outline
namespace Go.Proofs.YtpliknofjgbfjaaGreatDoor
open Go.RowKit

theorem highB_get (v : Nat) : ∀ (n j : Nat), j < n → (highB v n)[j]? = some ((v >>> (8 * (n - 1 - j))).toUInt8)
  | 0, _, h => by omega
  | n + 1, 0, _ => by unfold highB; rw [List.getElem?_cons_zero]; rfl
  | n + 1, j + 1, h => by
    unfold highB
    rw [List.getElem?_cons_succ, highB_get v n j (by omega)]
    congr 4
    omega
theorem highB_take (v n j : Nat) (h : j < n) : (highB v n).take (j + 1) = (highB v n).take j ++ [(v >>> (8 * (n - 1 - j))).toUInt8] := by
  rw [List.take_add_one, highB_get v n j h]; rfl
theorem byteCells_snoc (l : List UInt8) (x : UInt8) : Lib.byteCells l ++ [Value.int .u8 (x.toNat : Int)] = Lib.byteCells (l ++ [x]) := by simp [Lib.byteCells]
theorem byteCells_len (l : List UInt8) : (Lib.byteCells l).length = l.length := by simp [Lib.byteCells]

theorem shr_byte (v k : Nat) : (v : Int) / 2 ^ k % 256 = ((v >>> k).toUInt8.toNat : Int) := by
  have h : (v >>> k).toUInt8.toNat = v / 2 ^ k % 256 := by rw [Nat.shiftRight_eq_div_pow]; exact UInt8.toNat_ofNat'
  rw [h, Int.natCast_emod, Int.natCast_ediv, Int.natCast_pow]
  rfl

set_option maxRecDepth 100000 in
set_option maxHeartbeats 2000000 in
theorem high_any (v n : Nat) (w : World) (_hv : v < 18446744073709551616) (hn0 : 0 < n) (hn : n ≤ 8) :
    Calls Tryz.prog 55 #[.int .u64 v, .int .i64 n] w fun e w' => e = .returned (.string ⟨(highB v n).toArray⟩) ∧ Below w.heap.size w w' := by
  obtain ⟨i0, hi, hz0, hz1, hz2⟩ := info_parts byte_info
  go_enter Tryz.func55, Tryz.ntmps55
  go_wp2_with fail
  go_loopw [5, 6] (fun b i wr => ∃ c : Nat, c ≤ n ∧ i = .int .i64 ((c : Int) - 1) ∧ wr.ownsRow w.heap.size 5 1 b (n - c) (Lib.byteCells ((highB v n).take (n - c))) ∧ Below w.heap.size w wr) (fun _ i _ => (intOf i + 1).toNat)
  case atStart => exact ⟨n, Nat.le_refl _, rfl, by simp; exact World.ownsRow_nil _ _ _ _, Below.refl _ _⟩
  case round =>
    obtain ⟨c, hc, rfl, hown, hbr⟩ := hrel
    by_cases hlt : 0 < c
    · obtain ⟨k, rfl⟩ : ∃ k, c = k + 1 := ⟨c - 1, by omega⟩
      have HT := Lib.hid (highB_take v n (n - (k + 1)) (by omega))
      rw [show n - (k + 1) + 1 = n - k by omega, show n - 1 - (n - (k + 1)) = k by omega] at HT
      obtain ⟨j, hj⟩ : ∃ j, j = n - (k + 1) := ⟨_, rfl⟩
      have HLL := Lib.hid (show (Lib.byteCells ((highB v n).take j)).length = j by rw [byteCells_len, List.length_take, highB_length]; omega)
      rw [← hj] at HT hown
      have HJ := Lib.hid hj
      have hj8 : j ≤ 8 := by omega
      clear hj
      have HOWN := Lib.hid hown
      clear hown
      go_wp2_with (at_builtin; refine wpList_append_lies _ rfl (.tmp 13) (.tmp 19) 63 rfl w.heap.size 5 i0 (.int .u8 0) 1 1 Tryz.underlying63 hi hz0 hz1 hz2 rfl (by omega) _ j _ rfl (HOWN.out.alloc _) ⟨wr.heap.size, 0, none⟩ 1 1 [.int .u8 ((v : Int) / 2 ^ (8 * k) % 256)] rfl rfl ?c1 ?c2 (by omega) (by unfold maxLen; omega) (by omega) (by have := hbr.size; simp; omega) _ rfl ?_)
      case c1 =>
        intro a u ha
        match a, ha with
        | 0, ha => simp at ha; subst ha; simp [Addr.add]
      case c2 => intro u hu; simp at hu; subst hu; rfl
      intro g cap w1 hown1 hg1 hor hlt1
      have hb1 : Below w.heap.size w w1 := (hbr.alloc hbr.size _).grown hg1 (by have := hbr.size; simp; omega) (fun k hk => (HOWN.out.lt k hk).1)
      have HB1 := Lib.hid hb1
      rw [shr_byte v (8 * k), byteCells_snoc, ← HT.out] at hown1
      have HOW := Lib.hid hown1
      clear hown1 hg1 hor hb1 hbr
      go_wp2
      go_roundw
      case rel => exact ⟨k, by omega, by go_num, by rw [show n - k = j + 1 by have := HJ.out; omega] at *; exact HOW.out, HB1.out⟩
      case measure => simp [intOf] <;> omega
    · obtain rfl : c = 0 := by omega
      rw [Nat.sub_zero] at hown
      have ht : (highB v n).take n = highB v n := List.take_of_length_le (by rw [highB_length]; exact Nat.le_refl _)
      rw [ht] at hown
      obtain ⟨g, cap, rfl, hg0, hlt1⟩ := hown.form hn0
      have hcv := row_text wr _ g cap _ n (highB_length v n) hown
      clear hown ht
      go_wp2
      go_ret
      exact ⟨rfl, hbr⟩
end Go.Proofs.YtpliknofjgbfjaaGreatDoor
