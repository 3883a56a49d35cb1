/-
  The law's first call. No statement is proved here.
-/
import Derived.Test.YtbaanoomilohhaaGreatRefDrop
namespace Go.Proofs.YtbaanoomilohhaaGreat
open Go.RowKit

theorem Ints.two {w : World} {b : Nat} {k m : Int} (h : Blk w b 3 #[.int .i64 k, .int .i64 m]) : Ints w w.heap.size (some ⟨b, 0, none⟩) [k, m] := ints_blk2 h
theorem put02 : putEach [0, 2] = [0, 2] := by decide
theorem put1 : putL 1 [0, 2] = [0, 1, 2] := by decide
theorem put3 : putL 3 [0, 1, 2] = [0, 1, 2, 3] := by decide
theorem least1 : Least [0, 2] 1 := ⟨fun i hi => by obtain rfl : i = 0 := by omega
                                                   decide, by decide⟩
theorem least3 : Least [0, 1, 2] 3 := ⟨fun i hi => by
  rcases (show i = 0 ∨ i = 1 ∨ i = 2 by omega) with rfl | rfl | rfl <;> decide, by decide⟩
set_option maxRecDepth 100000 in
set_option maxHeartbeats 4000000 in
theorem alive10_any (w : World) : Calls Tryz.prog 4 #[] w fun e w' => e = .returned (.bool true) ∧ Below w.heap.size w w' := by
  have HN : Hid (∀ (W : World) (b : Nat), Ints W W.heap.size (some ⟨b, 0, none⟩) [0, 2] → Calls Tryz.prog 6 #[.int .i64 9, .slice (some ⟨b, 0, none⟩) 2 2] W fun e w' => ∃ g, e = .returned (.tuple #[.pointer (some ⟨g, 0, none⟩), .int .i64 0]) ∧ RoomAt w' g 9 [0, 2] ∧ W.heap.size ≤ g ∧ Below W.heap.size W w') := Lib.hid (fun W b hx => by
    refine (rnew_any 9 (some ⟨b, 0, none⟩) 2 2 [0, 2] W (by omega) (by omega) rfl hx (by omega)).mono ?_
    rintro e w' ⟨hb, h | h⟩
    · obtain ⟨_, rfl, hr⟩ := h
      rw [put02] at hr
      exact ⟨_, rfl, hr, Nat.le_refl _, hb⟩
    · exact absurd (by decide) h.1)
  have HT1 : Hid (∀ (W : World) (g : Nat), RoomAt W g 9 [0, 2] → Calls Tryz.prog 9 #[.pointer (some ⟨g, 0, none⟩)] W fun e w' => e = .returned (.tuple #[.int .i64 1, .int .i64 0]) ∧ RoomTurns W w' g 9 [0, 1, 2]) := Lib.hid (fun W g h => by
    refine (rtake_any h least1).mono ?_
    rintro e w' (⟨_, rfl, k⟩ | ⟨h, _⟩)
    · exact ⟨rfl, put1 ▸ k⟩
    · omega)
  have HT2 : Hid (∀ (W : World) (g : Nat), RoomAt W g 9 [0, 1, 2] → Calls Tryz.prog 9 #[.pointer (some ⟨g, 0, none⟩)] W fun e w' => e = .returned (.tuple #[.int .i64 3, .int .i64 0]) ∧ RoomTurns W w' g 9 [0, 1, 2, 3]) := Lib.hid (fun W g h => by
    refine (rtake_any h least3).mono ?_
    rintro e w' (⟨_, rfl, k⟩ | ⟨h, _⟩)
    · exact ⟨rfl, put3 ▸ k⟩
    · omega)
  have HF : Hid (∀ (W : World) (g : Nat), RoomAt W g 9 [0, 1, 2, 3] → Calls Tryz.prog 17 #[.pointer (some ⟨g, 0, none⟩)] W fun e w' => e = .returned (.int .i64 5) ∧ w' = W) := Lib.hid (fun W g h => rfree_any h)
  have HU : Hid (∀ (W : World) (g : Nat), RoomAt W g 9 [0, 1, 2, 3] → Calls Tryz.prog 19 #[.pointer (some ⟨g, 0, none⟩), .int .i64 2] W fun e w' => e = .returned (.bool true) ∧ ∃ d, w' = W.drewN d) := Lib.hid (fun W g h => rused_any 2 h)
  have HS : Hid (∀ (W : World) (g : Nat), RoomAt W g 9 [0, 1, 2, 3] → Calls Tryz.prog 18 #[.pointer (some ⟨g, 0, none⟩)] W fun e w' => e = .returned (.int .i64 9) ∧ w' = W) := Lib.hid (fun W g h => size_any h)
  go_enter Tryz.func4, Tryz.ntmps4
  go_wp2_with fail
  obtain ⟨W, hW⟩ : ∃ W, W = w.alloc (.cells #[.int .i64 0, .int .i64 2] 3) := ⟨_, rfl⟩
  have hb := Blk.new w 3 #[.int .i64 0, .int .i64 2]
  have hb0 : Below w.heap.size w W := by rw [hW]; exact (Below.refl _ _).alloc (Nat.le_refl _) _
  rw [← hW] at hb ⊢
  refine (HN.out _ _ (ints_blk2 hb)).mono ?_
  rintro e w1 ⟨g, rfl, hr, hg, hb1⟩
  have HR1 := Lib.hid hr
  have HB1 := Lib.hid (hb0.trans (hb1.mono hb0.size))
  have HG := Lib.hid (Nat.le_trans hb0.size hg)
  clear hW hb hb0 hr hg hb1
  go_wp2_with fail
  refine (HT1.out _ _ HR1.out).mono ?_
  rintro e w2 ⟨rfl, hT⟩
  have HR2 := Lib.hid hT.room
  have HB2 := Lib.hid (hT.under HB1.out HG.out HB1.out.size)
  clear hT
  go_wp2_with fail
  refine (HT2.out _ _ HR2.out).mono ?_
  rintro e w3 ⟨rfl, hT⟩
  have HR3 := Lib.hid hT.room
  have HB3 := Lib.hid (hT.under HB2.out HG.out HB2.out.size)
  clear hT HR1 HB1 HR2 HB2
  go_wp2_with fail
  refine (HF.out _ _ HR3.out).mono ?_
  rintro e w4 ⟨rfl, rfl⟩
  go_wp2_with fail
  refine (HU.out _ _ HR3.out).mono ?_
  rintro e w5 ⟨rfl, d, rfl⟩
  have HR5 := Lib.hid (HR3.out.drewN d)
  go_wp2_with fail
  refine (HS.out _ _ HR5.out).mono ?_
  rintro e w6 ⟨rfl, rfl⟩
  go_wp2_with fail
  go_ret
  exact ⟨rfl, ⟨HB3.out.os, HB3.out.tape, HB3.out.output, HB3.out.size, HB3.out.block⟩⟩
end Go.Proofs.YtbaanoomilohhaaGreat
