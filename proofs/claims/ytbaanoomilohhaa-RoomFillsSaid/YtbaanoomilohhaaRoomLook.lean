/-
  Package room: a sector is taken, how many are free. No statement is proved here.
-/
import Derived.Test.YtbaanoomilohhaaRoomTake
namespace Go.Proofs.Ytbaanoomilohhaa
open Go.RowKit

def bytesC (P : Nat → Bool) : Array Value := ((List.range 238).map fun k => Value.int .u8 (byteP P k : Int)).toArray
theorem bytesC_get (P : Nat → Bool) {k : Nat} (hk : k < 238) : (bytesC P)[k]? = some (.int .u8 (byteP P k : Int)) := by
  unfold bytesC
  rw [List.getElem?_toArray, List.getElem?_map, List.getElem?_range hk]
  rfl
theorem bytesC_size (P : Nat → Bool) : (bytesC P).size = 238 := by simp [bytesC]
theorem bytes_agg (w : World) : (isAgg 36).run Try.prog w = .ok true w := by kernel_rfl
theorem bytes_size (w : World) : (sizeOf 36).run Try.prog w = .ok 238 w := by kernel_rfl
theorem RoomAt.load {w : World} {g n : Nat} {H : List Int} (h : RoomAt w g n H) : (Instr.loadAt 36 (.pointer (some ⟨g, 1, none⟩))).run Try.prog w = .ok (.agg (bytesC (inP H))) w :=
  run_load_part h.blk (fun j v hv => by
    have hj : j < 238 := by
      rcases Nat.lt_or_ge j 238 with h' | h'
      · exact h'
      · rw [Array.getElem?_eq_none (by rw [bytesC_size]; exact h')] at hv; cases hv
    rw [bytesC_get _ hj] at hv
    rw [roomC_byte _ _ hj]
    exact hv) bytes_agg (fun w => by rw [bytesC_size]; exact bytes_size w)

set_option maxRecDepth 100000 in
set_option maxHeartbeats 2000000 in
theorem rfree_any {w : World} {g n : Nat} {H : List Int} (h : RoomAt w g n H) : Calls Try.prog 9 #[.pointer (some ⟨g, 0, none⟩)] w fun e w' => e = .returned (.int .i64 ((n : Int) - (H.length : Int))) ∧ w' = w := by
  have c0 := h.zero
  have hs := h.size
  have HO : Hid (∀ k, onesTo (inP H) k ≤ k * 8) := Lib.hid (fun k => by
    rw [onesTo_count]
    refine Nat.le_trans (List.length_filter_le _ _) ?_
    rw [List.length_range]
    exact Nat.le_refl _)
  have HP : Hid (onesTo (inP H) 238 = H.length) := Lib.hid (ones_list h.ok (by omega))
  have HF := Lib.hid h.ok.few
  obtain ⟨P, hP⟩ : ∃ P, P = inP H := ⟨_, rfl⟩
  have HL := Lib.hid h.load
  rw [← hP] at HL HP HO
  obtain ⟨C, hC⟩ : ∃ C, C = bytesC P := ⟨_, rfl⟩
  rw [← hC] at HL
  have HIX : Hid (∀ (w : World) (j : Nat), j < 238 → (Instr.index 36 (.agg C) (.int .i64 (j : Int))).run Try.prog w = .ok (.int .u8 (byteP P j : Int)) w) := Lib.hid (fun w j hj => index_bytes w C j _ hj (by rw [hC]; exact bytesC_get P hj))
  have HC : Hid (∀ (j : Nat) (w : World), Calls Try.prog 16 #[.int .u8 (byteP P j : Int)] w fun e w' => e = .returned (.int .i64 (onesAt P j : Int)) ∧ w' = w) := Lib.hid (fun j w => pop_any P j w)
  have hgl := h.lt
  clear h hP hC
  go_enter Try.func9, Try.ntmps9
  go_upto_region 4 with fail
  refine wp_region_lit ?_
  refine wpList_value (v := .pointer (some ⟨g, 0, none⟩)) rfl rfl ?_
  refine wpList_value (v := .pointer (some ⟨g, 0, none⟩)) rfl rfl ?_
  refine wpList_value (v := .pointer (some ⟨g, 1, none⟩)) rfl rfl ?_
  refine wpList_load rfl rfl rfl HL.out ?_
  go_wp2_with fail
  go_loopw [3, 16] (fun nv i wr => ∃ (j : Nat), j ≤ 238 ∧ i = .int .i64 j ∧ nv = .int .i64 ((n : Int) - (onesTo P j : Int)) ∧ wr = w) (fun _ i _ => 238 - (intOf i).toNat)
  case atStart => exact ⟨0, by omega, rfl, by simp [onesTo], rfl⟩
  case round =>
    obtain ⟨j, hj, rfl, rfl, rfl⟩ := hrel
    by_cases hlt : j < 238
    · have hjI : (j : Int) < 238 := by omega
      go_upto_region 6 with fail
      refine wp_region_lit ?_
      refine wpList_value rfl (exec_index rfl rfl rfl (HIX.out _ j hlt)) ?_
      go_wp2_with fail
      refine (HC.out j _).mono ?_
      rintro e w1 ⟨rfl, rfl⟩
      have h1 := HO.out j
      have h2 := HO.out (j + 1)
      have h3 : onesTo P (j + 1) = onesTo P j + onesAt P j := rfl
      have e1 : IntKind.i64.wrap ((n : Int) - (onesTo P j : Int) - (onesAt P j : Int)) = (n : Int) - (onesTo P (j + 1) : Int) := by rw [IntWalk.i64_in _ (by omega)]; omega
      clear h1 h2 h3
      go_wp2_with fail
      go_roundw
      case rel => exact ⟨j + 1, by omega, by go_num, rfl, by first | rfl | trivial⟩
      case measure => simp [intOf]; omega
    · obtain rfl : j = 238 := by omega
      go_wp2_with fail
      go_ret
      rw [HP.out]
      exact ⟨rfl, rfl⟩
theorem rfree_none (w : World) : Calls Try.prog 9 #[.pointer none] w fun e w' => e = .returned (.int .i64 0) ∧ w' = w := by
  go_enter Try.func9, Try.ntmps9
  go_wp2_with fail
  go_ret
  exact ⟨rfl, rfl⟩

theorem least_ex {n : Nat} {H : List Int} (ho : HOk n H) : ∃ k, Least H k := by
  have : ∀ m : Nat, (∀ i : Nat, i < m → (i : Int) ∈ H) ∨ ∃ k, Least H k := by
    intro m
    induction m with
    | zero => exact .inl fun i hi => by omega
    | succ m ih =>
      rcases ih with h | h
      · by_cases hm : (m : Int) ∈ H
        · refine .inl fun i hi => ?_
          rcases Nat.lt_or_ge i m with h' | h'
          · exact h i h'
          · obtain rfl : i = m := by omega
            exact hm
        · exact .inr ⟨m, h, hm⟩
      · exact .inr h
  rcases this (n + 1) with h | h
  · have := ho.range _ (h n (by omega))
    omega
  · exact h
theorem least_at {n : Nat} {H : List Int} {k j : Nat} (hk : Least H k) (hlt : freeAt (inP H) j < 8) (hin : j * 8 + freeAt (inP H) j < n) (hf : ∀ i, i < j → freeAt (inP H) i = 8 ∨ n ≤ i * 8 + freeAt (inP H) i) : k = j * 8 + freeAt (inP H) j := by
  refine hk.one (Least.byte (fun i hi => ?_) hlt)
  rcases hf i hi with h | h
  · exact h
  · have := freeAt_le (inP H) i
    omega
theorem least_end {n : Nat} {H : List Int} {k : Nat} (ho : HOk n H) (hk : Least H k) (hn : n ≤ 1900) (hf : ∀ i, i < 238 → freeAt (inP H) i = 8 ∨ n ≤ i * 8 + freeAt (inP H) i) : k = n := by
  have h1 := hk.le ho
  rcases Nat.lt_or_ge k n with h | h
  · have h2 : ¬ (k % 8 < freeAt (inP H) (k / 8)) := fun h2 => by
      have := (freeAt_spec (inP H) (k / 8)).1 (k % 8) h2
      rw [i8] at this
      exact hk.not ((inP_iff _ _).1 this)
    rcases hf (k / 8) (by omega) with h3 | h3 <;> omega
  · omega

set_option maxRecDepth 100000 in
set_option maxHeartbeats 4000000 in
theorem rtake_any {w : World} {g n : Nat} {H : List Int} (h : RoomAt w g n H) {k : Nat} (hk : Least H k) : Calls Try.prog 7 #[.pointer (some ⟨g, 0, none⟩)] w fun e w' =>
    (k < n ∧ e = .returned (.tuple #[.int .i64 (k : Int), .int .i64 0]) ∧ RoomTurns w w' g n (putL (k : Int) H)) ∨ (k = n ∧ e = .returned (.tuple #[.int .i64 0, .int .i64 20]) ∧ w' = w) := by
  have hs := h.size
  have HR := Lib.hid h
  have HK := Lib.hid hk
  obtain ⟨P, hP⟩ : ∃ P, P = inP H := ⟨_, rfl⟩
  have HL := Lib.hid h.load
  rw [← hP] at HL
  obtain ⟨C, hC⟩ : ∃ C, C = bytesC P := ⟨_, rfl⟩
  rw [← hC] at HL
  have HIX : Hid (∀ (w : World) (j : Nat), j < 238 → (Instr.index 36 (.agg C) (.int .i64 (j : Int))).run Try.prog w = .ok (.int .u8 (byteP P j : Int)) w) := Lib.hid (fun w j hj => index_bytes w C j _ hj (by rw [hC]; exact bytesC_get P hj))
  have HC : Hid (∀ (j : Nat) (w : World), Calls Try.prog 15 #[.int .u8 ((255 ^^^ byteP P j : Nat) : Int)] w fun e w' => e = .returned (.int .i64 (freeAt P j : Int)) ∧ w' = w) := Lib.hid (fun j w => tz_any P j w)
  have hgl := h.lt
  have HPP := Lib.hid hP
  clear h hP hC hk
  go_enter Try.func7, Try.ntmps7
  go_upto_region 3 with fail
  refine wp_region_lit ?_
  refine wpList_value (v := .pointer (some ⟨g, 0, none⟩)) rfl rfl ?_
  refine wpList_value (v := .pointer (some ⟨g, 0, none⟩)) rfl rfl ?_
  refine wpList_value (v := .pointer (some ⟨g, 1, none⟩)) rfl rfl ?_
  refine wpList_load rfl rfl rfl HL.out ?_
  go_wp2_with fail
  go_loopw [13] (fun i wr => ∃ (j : Nat), j ≤ 238 ∧ i = .int .i64 j ∧ (∀ i, i < j → freeAt P i = 8 ∨ n ≤ i * 8 + freeAt P i) ∧ wr = w) (fun i _ => 238 - (intOf i).toNat)
  case atStart => exact ⟨0, by omega, rfl, fun i hi => by omega, rfl⟩
  case round =>
    obtain ⟨j, hj, rfl, hf, rfl⟩ := hrel
    have HFF := Lib.hid hf
    clear hf
    by_cases hlt : j < 238
    · have hjI : (j : Int) < 238 := by omega
      go_upto_region 5 with fail
      refine wp_region_lit ?_
      refine wpList_value (v := .int .i64 (j : Int)) rfl rfl ?_
      refine wpList_value rfl (exec_index rfl rfl rfl (HIX.out _ j hlt)) ?_
      obtain ⟨b, hb⟩ : ∃ b, b = byteP P j := ⟨_, rfl⟩
      obtain ⟨f, hfe⟩ : ∃ f, f = freeAt P j := ⟨_, rfl⟩
      obtain ⟨c, hc⟩ : ∃ c, c = 255 ^^^ b := ⟨_, rfl⟩
      have hb8 : b < 256 := by rw [hb]; exact byteP_lt _ _
      have hf8 : f ≤ 8 := by rw [hfe]; exact freeAt_le _ _
      have hxor : bits .xor .u8 IntKind.u8.max (b : Int) = (c : Int) := by
        rw [hc]
        exact u8_xor_nat 255 b (by omega) hb8
      have HTZ : Hid (∀ w, Calls Try.prog 15 #[.int .u8 (c : Int)] w fun e w' => e = .returned (.int .i64 (f : Int)) ∧ w' = w) := Lib.hid (fun w => by rw [hc, hb, hfe]; exact HC.out j w)
      have hful : b = 255 ↔ f = 8 := by rw [hb, hfe]; exact full_byte P j
      have HFE := Lib.hid hfe
      rw [← hb]
      have e1 : IntKind.i64.wrap ((j : Int) * 8) = (j : Int) * 8 := IntWalk.i64_in _ (by omega)
      have e2 : IntKind.i64.wrap ((j : Int) * 8 + (f : Int)) = ((j * 8 + f : Nat) : Int) := by rw [IntWalk.i64_in _ (by omega)]; omega
      obtain ⟨t, ht⟩ : ∃ t, t = j * 8 + f := ⟨_, rfl⟩
      rw [← ht] at e2
      have HT := Lib.hid ht
      have HH := Lib.hid (rhas_any (t : Int) HR.out)
      clear hb hfe hc ht
      by_cases hbe : b = 255
      · have hf9 : f = 8 := hful.1 hbe
        have HF9 := Lib.hid hf9
        have hbI : (b : Int) = 255 := by omega
        clear hful hf9 hbe
        rw [hbI] at hxor
        go_wp2_with fail
        refine (HTZ.out _).mono ?_
        rintro e w1 ⟨rfl, rfl⟩
        go_wp2_with fail
        go_roundw
        case rel => exact ⟨j + 1, by omega, by go_num, fun i hi => by
          rcases Nat.lt_or_ge i j with h' | h'
          · exact HFF.out i h'
          · obtain rfl : i = j := by omega
            rw [← HFE.out]
            exact .inl HF9.out, by first | rfl | trivial⟩
        case measure => simp [intOf]; omega
      · have hf9 : f < 8 := by have := mt hful.2 hbe; omega
        have hbI : ¬ (b : Int) = 255 := by omega
        clear hful hbe
        by_cases hin : t < n
        · have hda : decide (0 ≤ (t : Int) ∧ (t : Int) < (n : Int)) = true := decide_eq_true ⟨by omega, by omega⟩
          rw [hda] at HH
          have HKT : Hid (k = t) := Lib.hid (by
            rw [HT.out, HFE.out, HPP.out]
            rw [HT.out] at hin
            have h9 := hf9
            rw [HFE.out, HPP.out] at hin h9
            have := HFF.out
            rw [HPP.out] at this
            exact least_at HK.out h9 hin this)
          have HST := Lib.hid (rset_any t HR.out hin)
          clear hda
          go_wp2_with fail
          refine (HTZ.out _).mono ?_
          rintro e w1 ⟨rfl, rfl⟩
          go_wp2_with fail
          refine HH.out.mono ?_
          rintro e w1 ⟨rfl, rfl⟩
          go_wp2_with fail
          refine HST.out.mono ?_
          rintro e w1 ⟨rfl, hT⟩
          have HTT := Lib.hid hT
          clear hT
          go_wp2_with fail
          go_ret2
          rw [HKT.out]
          exact .inl ⟨hin, rfl, HTT.out⟩
        · have hda : decide (0 ≤ (t : Int) ∧ (t : Int) < (n : Int)) = false := decide_eq_false (fun h => by omega)
          rw [hda] at HH
          clear hda
          go_wp2_with fail
          refine (HTZ.out _).mono ?_
          rintro e w1 ⟨rfl, rfl⟩
          go_wp2_with fail
          refine HH.out.mono ?_
          rintro e w1 ⟨rfl, rfl⟩
          go_wp2_with fail
          go_roundw
          case rel => exact ⟨j + 1, by omega, by go_num, fun i hi => by
            rcases Nat.lt_or_ge i j with h' | h'
            · exact HFF.out i h'
            · obtain rfl : i = j := by omega
              rw [← HFE.out, ← HT.out]
              exact .inr (by omega), by first | rfl | trivial⟩
          case measure => simp [intOf]; omega
    · obtain rfl : j = 238 := by omega
      have HE : Hid (k = n) := Lib.hid (by
        have := HFF.out
        rw [HPP.out] at this
        exact least_end HR.out.ok HK.out hs this)
      go_wp2_with fail
      go_ret2
      exact .inr ⟨HE.out, rfl, rfl⟩
theorem rtake_none (w : World) : Calls Try.prog 7 #[.pointer none] w fun e w' => e = .returned (.tuple #[.int .i64 0, .int .i64 1]) ∧ w' = w := by
  go_enter Try.func7, Try.ntmps7
  go_wp2_with fail
  go_ret2
  exact ⟨rfl, rfl⟩
end Go.Proofs.Ytbaanoomilohhaa
