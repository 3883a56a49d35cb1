/-
  Package mark's Compare.
-/
import Derived.Test.YtpliknofjgbfjaaDoorMarkSmall
import Derived.StillTailTactics
namespace Go.Proofs.YtpliknofjgbfjaaDoor
open Go.RowKit

theorem cmpK_or (k : Int) (s : ByteArray) (l : Int) (t : ByteArray) : cmpK k s l t = orK (Lib.compareInt k l) (Lib.compareBytes s.data.toList t.data.toList) := rfl

set_option maxRecDepth 100000 in
set_option maxHeartbeats 2000000 in
theorem compare_any (k : Int) (s : ByteArray) (l : Int) (t : ByteArray) (w : World) :
    Calls Tryd.prog 10 #[.agg #[.int .i64 k, .string s], .agg #[.int .i64 l, .string t]] w fun e w' => e = .returned (.int .i64 (cmpK k s l t)) ∧ Below w.heap.size w w' := by
  rw [cmpK_or]
  have HC := Lib.hid (fun w => cmpint_any k l w)
  have HS := Lib.hid (fun w => strcmp_any s t w)
  generalize Lib.compareInt k l = x at *
  generalize Lib.compareBytes s.data.toList t.data.toList = y at *
  go_enter Tryd.func10, Tryd.ntmps10
  go_wp2_with fail
  obtain ⟨W2, hW2⟩ : ∃ W2, W2 = (w.alloc (.cells #[.int .i64 k, .string s] 25)).alloc (.cells #[.int .i64 l, .string t] 25) := ⟨_, rfl⟩
  have b0 : Blk W2 w.heap.size 25 #[.int .i64 k, .string s] := by rw [hW2]; exact (Blk.new w _ _).alloc _
  have b1 : Blk W2 (w.heap.size + 1) 25 #[.int .i64 l, .string t] := by
    have := Blk.new (w.alloc (.cells #[.int .i64 k, .string s] 25)) 25 #[.int .i64 l, .string t]
    rw [hW2]
    simpa using this
  have hb : Below w.heap.size w W2 := by rw [hW2]; exact ((Below.refl _ _).alloc (Nat.le_refl _) _).alloc (by simp) _
  rw [← hW2]
  have c0 := b0.cell 0
  have c1 := b0.cell 1
  have c2 := b1.cell 0
  have c3 := b1.cell 1
  simp at c0 c1 c2 c3
  clear hW2 b0 b1
  go_still_tail 10, (by kernel_rfl)
  still_call ((HC.out _).mono (fun e w' h => h))
  repeat still_step
  still_call ((HS.out _).mono (fun e w' h => h))
  repeat still_step
  refine wpStill_nil ?_
  go_wp2_with fail
  have hd : Blk (W2.alloc (.cells #[.int .i64 x, .int .i64 y] 3)).drew W2.heap.size 3 #[.int .i64 x, .int .i64 y] := (Blk.new W2 _ _).drew
  refine (or_any x y _ 2 _ (by rw [hd.cell]; rfl) (by rw [hd.cell]; rfl)).mono ?_
  rintro e w1 ⟨rfl, rfl⟩
  clear hd c0 c1 c2 c3
  go_wp2_with fail
  go_ret
  exact ⟨rfl, below_drew (hb.alloc hb.size _)⟩
end Go.Proofs.YtpliknofjgbfjaaDoor
