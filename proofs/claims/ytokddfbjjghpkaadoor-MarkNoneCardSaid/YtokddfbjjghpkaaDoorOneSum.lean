/-
  The digest of texts: the code's.
-/
import Derived.Test.YtokddfbjjghpkaaDoorOneText
import Derived.Test.YtokddfbjjghpkaaDoorOnePad
import Derived.Test.YtokddfbjjghpkaaDoorBookTexts
namespace Go.Proofs.YtokddfbjjghpkaaDoor
open Go.RowKit

theorem dig_new (w : World) : DigAt (w.alloc (.cells (digCells St.init (fun _ => 0) 0) 55)) w.heap.size [] :=
  ⟨fun _ => 0, fun t h => (by cases h), Blk.new w _ _⟩
def zeroSt : St := ⟨0, 0, 0, 0, 0⟩
set_option maxRecDepth 100000 in
set_option maxHeartbeats 4000000 in
theorem sum_any (A : Option Addr) (m c : Nat) (xs : List ByteArray) (w : World) (hm : xs.length = m) (hx : Txts w w.heap.size A xs) (hl : m ≤ 1000000) (hs : (cats xs).length ≤ 1000000) :
    Calls Tryd.prog 11 #[.slice A m c] w fun e w' => e = .returned (.string ⟨(oneB (cats xs)).toArray⟩) ∧ Below w.heap.size w w' := by
  have HX := Lib.hid hx
  have HM := Lib.hid hm
  have HS := Lib.hid hs
  clear hx hm hs
  obtain ⟨Z, hZ⟩ : ∃ Z, Z = digCells zeroSt (fun _ => 0) 0 := ⟨_, rfl⟩
  have hz : ∀ w, (zeroValue 55).run Tryd.prog w = .ok (.agg Z) w := fun w => by rw [hZ]; kernel_rfl
  obtain ⟨D, hD⟩ : ∃ D, D = digCells St.init (fun _ => 0) 0 := ⟨_, rfl⟩
  have hZD : D.size = Z.size := by rw [hZ, hD, digCells_size, digCells_size]
  have h1 : D.all (·.oneCell') = true := by rw [hD]; decide +kernel
  have hsz : ∀ w, (sizeOf 55).run Tryd.prog w = .ok D.size w := fun w => by rw [hD, digCells_size]; kernel_rfl
  go_enter Tryd.func11, Tryd.ntmps11
  go_upto_region 1 with fail
  refine wp_region_lit ?_
  refine wpList_value (v := .agg (stCells St.init)) (w' := w) rfl (by kernel_rfl) ?_
  refine wpList_value (v := .agg D) (w' := w) rfl (by rw [hD]; kernel_rfl) ?_
  refine wpList_value (v := .pointer (some ⟨w.heap.size, 0, none⟩)) (w' := w.alloc (.cells Z 55)) rfl (by go_simp) ?_
  refine wpList_store rfl rfl rfl rfl (store_whole (Blk.new w _ Z) hZD h1 hsz) ?_
  have hb1 : Below w.heap.size w ((w.alloc (.cells Z 55)).setRow w.heap.size D) := below_setRow ((Below.refl _ _).alloc (Nat.le_refl _) _) (Nat.le_refl _) _
  have hB : Blk ((w.alloc (.cells Z 55)).setRow w.heap.size D) w.heap.size 55 D := blk_setRow (Blk.new w _ Z) D
  obtain ⟨W1, hW1⟩ : ∃ W1, W1 = (w.alloc (.cells Z 55)).setRow w.heap.size D := ⟨_, rfl⟩
  rw [← hW1] at hb1 hB
  rw [← hW1]
  have HD : Hid (DigAt W1 w.heap.size []) := Lib.hid ⟨fun _ => 0, fun t h => (by cases h), by rw [hD] at hB; exact hB⟩
  have HB := Lib.hid hb1
  clear hW1 hb1 hB hD hZ hZD h1 hsz hz
  go_wp2_with fail
  go_loopw [10] (fun i wr => ∃ j : Nat, j ≤ m ∧ i = .int .i64 j ∧ DigAt wr w.heap.size (cats (xs.take j)) ∧ Below w.heap.size w wr) (fun i _ => m - (intOf i).toNat)
  case atStart => exact ⟨0, Nat.zero_le _, rfl, HD.out, HB.out⟩
  case round =>
    clear HD HB
    obtain ⟨j, hj, rfl, hD, hbr⟩ := hrel
    have HD := Lib.hid hD
    have HBR := Lib.hid hbr
    clear hD
    by_cases hlt : j < m
    · have hxl : j < xs.length := by rw [HM.out]; exact hlt
      obtain ⟨b, off, hA, hbB, hc⟩ := HX.out (by omega)
      obtain ⟨x, hx⟩ : ∃ x, x = xs[j] := ⟨_, rfl⟩
      have hxj : xs[j]? = some x := by rw [hx]; exact List.getElem?_eq_getElem hxl
      have hcx : wr.cell? ⟨b, off + j, none⟩ = some (.string x) := (hbr.cell (p := ⟨b, off + j, none⟩) hbB).trans (hc j x hxj)
      have E1 := Lib.hid (cats_snoc hxj)
      have hlen := cats_len hxj
      have hS := HS.out
      have HT := Lib.hid (fun w1 hd => otake_any w.heap.size (cats (xs.take j)) x w1 hd (by omega))
      clear hxj hc hx hlen hS hbr
      subst hA
      go_wp2_with (go_at_call 21; refine (HT.out _ HD.out).mono ?_; rintro e w1 ⟨rfl, hd1, hg1⟩)
      have HD1 := Lib.hid hd1
      have HB1 := Lib.hid (below_by_new HBR.out hg1 (Nat.le_refl _))
      clear hd1 hg1
      go_wp2_with fail
      go_roundw
      case rel => exact ⟨j + 1, by omega, by go_num, by rw [E1.out]; exact HD1.out, HB1.out⟩
      case measure => simp [intOf] <;> omega
    · obtain rfl : j = m := by omega
      clear hbr
      have HD2 : Hid (DigAt wr w.heap.size (cats xs)) := Lib.hid (by
        have := HD.out
        rwa [List.take_of_length_le (by rw [HM.out]; exact Nat.le_refl _)] at this)
      clear HD
      obtain ⟨M, hM⟩ : ∃ M, M = cats xs := ⟨_, rfl⟩
      rw [← hM] at HD2 HS
      have HMM := Lib.hid hM
      clear hM
      obtain ⟨n, hn⟩ : ∃ n, n = M.length := ⟨_, rfl⟩
      have hcn : wr.cell? ⟨w.heap.size, 69, none⟩ = some (.int .i64 (n : Int)) := by
        obtain ⟨p, _, hb⟩ := HD2.out
        rw [hb.cell, hn]
        unfold digCells
        rw [List.getElem?_toArray]
        exact digL_count
      have hn1 : n ≤ 1000000 := by rw [hn]; exact HS.out
      have HN := Lib.hid hn
      have HP := Lib.hid (fun w => opad_any n w (by omega))
      have hpl : (padB n).length ≤ 72 := by have := zerosP_lt n; rw [padB_length]; omega
      obtain ⟨PB, hPB⟩ : ∃ PB : ByteArray, PB = ⟨(padB n).toArray⟩ := ⟨_, rfl⟩
      have hps : PB.size ≤ 72 := by rw [hPB]; show (padB n).toArray.size ≤ 72; simpa using hpl
      have hpd : PB.data.toList = padB n := by rw [hPB]
      rw [← hPB] at HP
      have HPD := Lib.hid hpd
      have HT := Lib.hid (fun w1 hd => otake_any w.heap.size M PB w1 hd (by omega))
      have HG := Lib.hid (show w.heap.size < wr.heap.size by obtain ⟨p, _, hb⟩ := HD2.out; exact hb.lt)
      clear hn hpl hPB hps hpd hn1
      go_wp2_with (go_at_call 22; refine (HP.out _).mono ?_; rintro e w1 ⟨rfl, hb1⟩)
      have HB1 := Lib.hid hb1
      have HD3 : Hid (DigAt w1 w.heap.size M) := Lib.hid (by
        obtain ⟨p, hp, hb⟩ := HD2.out
        exact ⟨p, hp, hb.below HB1.out hb.lt⟩)
      clear hb1 hcn
      go_wp2_with (go_at_call 21; refine (HT.out _ HD3.out).mono ?_; rintro e w2 ⟨rfl, hd2, hg2⟩)
      obtain ⟨p, hp, hb⟩ := hd2
      have HBk := Lib.hid hb
      have HG2 := Lib.hid hg2
      clear hp hb hg2
      go_wp2_with (go_at_call 23; refine (text_any _ _ _ _ _ HBk.out).mono ?_; rintro e w3 ⟨rfl, hb3⟩)
      have HB3 := Lib.hid hb3
      clear hb3
      go_wp2_with fail
      go_ret
      refine ⟨?_, ?_⟩
      · rw [← HMM.out]
        unfold oneB
        rw [← HN.out, ← HPD.out, List.length_append, ← Lib.size_eq, ← HN.out]
        rfl
      · have k1 : Below w.heap.size w w1 := HBR.out.trans (HB1.out.mono (Nat.le_of_lt HG.out))
        have k2 : Below w.heap.size w w2 := below_by_new k1 HG2.out (Nat.le_refl _)
        exact k2.trans (HB3.out.mono k2.size)
end Go.Proofs.YtokddfbjjghpkaaDoor
