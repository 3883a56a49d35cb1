/-
  The number of texts: the code's. No statement is proved here.
-/
import Derived.Test.YtgggeikfajhfdaaGearSmall
namespace Go.Proofs.Ytgggeikfajhfdaa
open Go.RowKit

set_option maxRecDepth 100000 in
set_option maxHeartbeats 2000000 in
theorem of_any (A : Option Addr) (n c : Nat) (xs : List ByteArray) (w : World) (hn : xs.length = n) (hx : Txts w w.heap.size A xs) (hlen : n ≤ 140737488351232) (hsz : ∀ x ∈ xs, x.size ≤ 140737488351232) :
    Calls Try.prog 14 #[.slice A n c] w fun e w' => e = .returned (.int .u64 (groll 0 (cats xs) : Int)) ∧ Below w.heap.size w w' := by
  have HX := Lib.hid hx
  have HZ := Lib.hid hsz
  have HN := Lib.hid hn
  clear hx hsz hn
  go_enter Try.func14, Try.ntmps14
  go_wp2_with fail
  go_loopw [3, 9] (fun v i wr => ∃ j : Nat, j ≤ n ∧ i = .int .i64 j ∧ v = .int .u64 (groll 0 (cats (xs.take j)) : Int) ∧ Below w.heap.size w wr) (fun _ i _ => n - (intOf i).toNat)
  case atStart => exact ⟨0, Nat.zero_le _, rfl, rfl, Below.refl _ _⟩
  case round =>
    obtain ⟨j, hj, rfl, rfl, hbr⟩ := hrel
    by_cases hlt : j < n
    · have hxl : j < xs.length := by rw [HN.out]; exact hlt
      obtain ⟨b, off, hA, hbB, hc⟩ := HX.out (by omega)
      obtain ⟨x, hx⟩ : ∃ x, x = xs[j] := ⟨_, rfl⟩
      have hxj : xs[j]? = some x := by rw [hx]; exact List.getElem?_eq_getElem hxl
      have hcx : wr.cell? ⟨b, off + j, none⟩ = some (.string x) := (hbr.cell (p := ⟨b, off + j, none⟩) hbB).trans (hc j x hxj)
      have hsx := HZ.out x (by rw [hx]; exact List.getElem_mem hxl)
      have E1 := Lib.hid (cats_snoc hxj)
      have hsl : groll 0 (cats (xs.take j)) < 18446744073709551616 := groll_lt _ (by decide)
      obtain ⟨s, hs0⟩ : ∃ s, s = groll 0 (cats (xs.take j)) := ⟨_, rfl⟩
      rw [← hs0] at hsl ⊢
      have HS := Lib.hid hs0
      have HL := Lib.hid hsl
      clear hxj hc hx hs0 hsl
      subst hA
      go_wp2_with fail
      go_loopw [3, 15] (fun v i wr => ∃ k : Nat, k ≤ x.size ∧ i = .int .i64 k ∧ v = .int .u64 (groll s (x.data.toList.take k) : Int) ∧ Below w.heap.size w wr) (fun _ i _ => x.size - (intOf i).toNat)
      case atStart => exact ⟨0, Nat.zero_le _, rfl, rfl, hbr⟩
      case round =>
        obtain ⟨k, hk, rfl, rfl, hbq⟩ := hrel
        by_cases hkx : k < x.size
        · have hxk : x.data.toList[k]? = some x[k] := by
            rw [List.getElem?_eq_getElem (by rw [← Lib.size_eq]; exact hkx)]
            rfl
          have E2 := Lib.hid (groll_next s hxk)
          have htl : groll s (x.data.toList.take k) < 18446744073709551616 := groll_lt _ HL.out
          obtain ⟨t, ht0⟩ : ∃ t, t = groll s (x.data.toList.take k) := ⟨_, rfl⟩
          rw [← ht0] at htl ⊢
          have HT := Lib.hid ht0
          have HTL := Lib.hid htl
          clear hxk ht0 htl
          go_wp2_with fail
          refine (roll_any t (some ⟨wr.heap.size, 0, none⟩) 1 1 [x[k]] _ rfl (byts_one _ _ _ rfl _ rfl) (by omega) HTL.out).mono ?_
          rintro e w1 ⟨rfl, rfl⟩
          have hb1 : Below w.heap.size w (wr.alloc (.cells #[.int .u8 (x[k].toNat : Int)] 5)) := hbq.alloc hbq.size _
          go_wp2_with fail
          go_roundw
          case rel => exact ⟨k + 1, by omega, by go_num, by rw [E2.out, ← HT.out, groll_one], hb1⟩
          case measure => simp [intOf]; omega
        · have hk2 : x.data.toList.take k = x.data.toList := List.take_of_length_le (by rw [Array.length_toList]; show x.size ≤ k; omega)
          rw [hk2]
          clear hk2
          go_wp2_with fail
          go_roundw
          case rel => exact ⟨j + 1, by omega, by go_num, by rw [E1.out, groll_append, HS.out], hbq⟩
          case measure => simp [intOf]; omega
    · obtain rfl : j = n := by omega
      have htk : xs.take j = xs := List.take_of_length_le (by rw [HN.out]; exact Nat.le_refl _)
      rw [htk]
      clear htk
      go_wp2_with fail
      go_ret
      exact ⟨rfl, hbr⟩
end Go.Proofs.Ytgggeikfajhfdaa
