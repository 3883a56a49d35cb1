/-
  The law's first call. No statement is proved here.
-/
import Derived.Test.YtnpmeolibdjgpaaGreatDoorHeadSame
namespace Go.Proofs.YtnpmeolibdjgpaaGreatDoor
open Go.RowKit

theorem putOnce_ex : putOnce [7, 3, 7] = [3, 7] := by
  have e : ([7, 3, 7] : List Int).mergeSort (fun x y => decide (x ≤ y)) = [3, 7, 7] := by simp [List.mergeSort, List.MergeSort.Internal.splitInTwo]
  unfold putOnce
  rw [e]
  decide +kernel
theorem valid_ex : (HD.mk 5 true [3, 7]).validB = true := by decide

set_option maxRecDepth 100000 in
set_option maxHeartbeats 4000000 in
theorem alive8_any (w : World) : Calls Tryz.prog 8 #[] w fun e w' => e = .returned (.bool true) ∧ Below w.heap.size w w' := by
  obtain ⟨h, hh⟩ : ∃ h, h = HD.mk 5 true [3, 7] := ⟨_, rfl⟩
  have hvb : h.validB = true := by rw [hh]; exact valid_ex
  have HNX : Hid (∀ (W : World) (b : Nat), Ints W W.heap.size (some ⟨b, 0, none⟩) [7, 3, 7] → Calls Tryz.prog 22 #[.agg #[.int .i64 4, .bool false, .slice none 0 0], .slice (some ⟨b, 0, none⟩) 3 3] W fun e w' => ∃ A c, e = .returned (.agg #[.int .i64 5, .bool true, .slice A 2 c]) ∧ h.At w' A c ∧ Below W.heap.size W w') := Lib.hid (fun W b hx => by
    refine (hnext_any (HD.mk 4 false []) none 0 (some ⟨b, 0, none⟩) 3 3 [7, 3, 7] W rfl hx (fun e => by cases e) ⟨by decide, by decide⟩ (by decide)).mono ?_
    rintro e w' ⟨A, c, rfl, ha, -, hb⟩
    rw [putOnce_ex] at ha ⊢
    exact ⟨A, c, rfl, by rw [hh]; exact ha, hb⟩)
  have HLY : Hid (∀ (W : World) A c, h.At W A c → Calls Tryz.prog 11 #[.agg #[.int .i64 5, .bool true, .slice A 2 c]] W fun e w' => e = .returned (.tuple #[.string (bs h.text), .int .i64 0]) ∧ Below W.heap.size W w') := Lib.hid (fun W A c ha => by
    have h1 := hlay_any h A c W ha
    rw [if_pos hvb] at h1
    have e : h.val A c = .agg #[.int .i64 5, .bool true, .slice A 2 c] := by rw [hh]; rfl
    rwa [e] at h1)
  have HRD : Hid (∀ (W : World), Calls Tryz.prog 15 #[.string (bs h.text)] W fun e w' => ∃ A c, e = .returned (.tuple #[.agg #[.int .i64 5, .bool true, .slice A 2 c], .int .i64 0]) ∧ Below W.heap.size W w') := Lib.hid (fun W => by
    refine (hread_laid h hvb W).mono ?_
    rintro e w' ⟨A, c, rfl, _, hb⟩
    exact ⟨A, c, by rw [hh]; rfl, hb⟩)
  obtain ⟨T, hT⟩ : ∃ T, T = bs h.text := ⟨_, rfl⟩
  rw [← hT] at HLY HRD
  have HHH := Lib.hid hh
  clear hh hvb hT
  go_enter Tryz.func8, Tryz.ntmps8
  go_wp2_with fail
  refine (HNX.out _ _ (ints_at _ _ _ _ rfl rfl)).mono ?_
  rintro e w1 ⟨A, c, rfl, ha, hb1⟩
  have HB1 : Hid (Below w.heap.size w w1) := Lib.hid (((Below.refl _ _).alloc (Nat.le_refl _) _).trans (hb1.mono (by simp)))
  have HA1 := Lib.hid ha
  clear ha hb1
  go_wp2_with fail
  refine (HLY.out _ A c (HA1.out.below ((Below.refl _ _).alloc (Nat.le_refl _) _))).mono ?_
  rintro e w2 ⟨rfl, hb2⟩
  have HX2 : Hid (Blk w2 w1.heap.size 29 #[.int .i64 5, .bool true, .slice A 2 c]) := Lib.hid ((Blk.new w1 _ _).below hb2 (by simp))
  have HB2 : Hid (Below w1.heap.size w1 w2) := Lib.hid (((Below.refl _ _).alloc (Nat.le_refl _) _).trans (hb2.mono (by simp)))
  clear hb2
  go_wp2_with fail
  refine (HRD.out _).mono ?_
  rintro e w3 ⟨A2, c2, rfl, hb3⟩
  have HX3 : Hid (Blk w3 w1.heap.size 29 #[.int .i64 5, .bool true, .slice A 2 c]) := Lib.hid (HX2.out.below hb3 HX2.out.lt)
  have HB3 : Hid (Below w1.heap.size w1 w3) := Lib.hid (HB2.out.trans (hb3.mono HB2.out.size))
  have hts : h.ts = [3, 7] := by rw [HHH.out]
  obtain ⟨b, off, hA, hbl, hc⟩ := HA1.out.lie (by rw [hts]; simp)
  subst hA
  have hx1 : Blk (w3.alloc (.cells #[.int .i64 5, .bool true, .slice A2 2 c2] 29)) w1.heap.size 29 #[.int .i64 5, .bool true, .slice (some ⟨b, off, none⟩) 2 c] := HX3.out.below ((Below.refl _ _).alloc (Nat.le_refl _) _) HX3.out.lt
  have q0 := hx1.cell 0
  have q1 := hx1.cell 1
  have q2 := hx1.cell 2
  simp at q0 q1 q2
  have q3 : (w3.alloc (.cells #[.int .i64 5, .bool true, .slice A2 2 c2] 29)).cell? ⟨b, off, none⟩ = some (.int .i64 3) := by
    have h1 := ((HB3.out.alloc HB3.out.size (.cells #[.int .i64 5, .bool true, .slice A2 2 c2] 29)).cell (p := ⟨b, off + 0, none⟩) hbl).trans (hc 0 3 (by rw [hts]; rfl))
    exact h1
  clear hb3 hts hbl hc hx1
  go_wp2_with fail
  go_ret
  exact ⟨rfl, (HB1.out.trans (HB3.out.mono HB1.out.size)).alloc (Nat.le_trans HB1.out.size HB3.out.size) _⟩
end Go.Proofs.YtnpmeolibdjgpaaGreatDoor
