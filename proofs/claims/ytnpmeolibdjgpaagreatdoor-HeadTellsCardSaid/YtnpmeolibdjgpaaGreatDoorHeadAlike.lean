/-
  The law's own comparison of a head with the document's. No statement is proved here.
-/
import Derived.Test.YtnpmeolibdjgpaaGreatDoorBookApart
namespace Go.Proofs.YtnpmeolibdjgpaaGreatDoor
open Go.RowKit

set_option maxRecDepth 100000 in
set_option maxHeartbeats 4000000 in
theorem halike_any (h : HD) (A : Option Addr) (c : Nat) (A' : Option Addr) (c' : Nat) (w : World) (ha : h.At w A c) (ha' : h.At w A' c') :
    Calls Tryz.prog 18 #[h.val A c, h.val A' c'] w fun e w' => e = .returned (.bool true) ∧ Below w.heap.size w w' := by
  obtain ⟨seq, full, ts⟩ := h
  obtain ⟨hl, hf⟩ := ha
  obtain ⟨hl', -⟩ := ha'
  simp only at hl hf hl'
  unfold HD.val
  simp only
  obtain ⟨n, hn⟩ : ∃ n, n = ts.length := ⟨_, rfl⟩
  rw [← hn]
  obtain ⟨W, hW⟩ : ∃ W, W = (w.alloc (.cells #[.int .i64 seq, .bool full, .slice A n c] 29)).alloc (.cells #[.int .i64 seq, .bool full, .slice A' n c'] 30) := ⟨_, rfl⟩
  have HB : Hid (Below w.heap.size w W) := Lib.hid (by rw [hW]; exact ((Below.refl _ _).alloc (Nat.le_refl _) _).alloc (by simp) _)
  have b1 : Blk W w.heap.size 29 #[.int .i64 seq, .bool full, .slice A n c] := by
    rw [hW]
    exact (Blk.new w _ _).below ((Below.refl _ _).alloc (Nat.le_refl _) _) (by simp)
  have b2 : Blk W (w.heap.size + 1) 30 #[.int .i64 seq, .bool full, .slice A' n c'] := by
    have := Blk.new (w.alloc (.cells #[.int .i64 seq, .bool full, .slice A n c] 29)) 30 #[.int .i64 seq, .bool full, .slice A' n c']
    rw [hW]
    rwa [show (w.alloc (.cells #[.int .i64 seq, .bool full, .slice A n c] 29)).heap.size = w.heap.size + 1 by simp] at this
  have HS : Hid (Calls Tryz.prog 62 #[.slice A n c, .slice A' n c'] W fun e w'' => e = .returned (.bool true) ∧ Below W.heap.size W w'') := Lib.hid (by
    refine (ksame_any A A' n c c' ts W hn.symm ((hl.below HB.out).more HB.out.size) ((hl'.below HB.out).more HB.out.size) (by omega)).mono ?_
    rintro e w'' ⟨rfl, q, rfl⟩
    exact ⟨rfl, ⟨rfl, rfl, rfl, Nat.le_refl _, fun _ _ => rfl⟩⟩)
  have c0 := b1.cell 0
  have c1 := b1.cell 1
  have c2 := b1.cell 2
  have d0 := b2.cell 0
  have d1 := b2.cell 1
  have d2 := b2.cell 2
  simp at c0 c1 c2 d0 d1 d2
  have hff : (full == full) = true := by cases full <;> rfl
  have HW := Lib.hid hW
  clear hW b1 b2 hl hl' hf hn
  go_enter Tryz.func18, Tryz.ntmps18
  go_upto_region 1 with fail
  rw [← HW.out]
  go_wp2_with fail
  refine HS.out.mono ?_
  rintro e w1 ⟨rfl, hb1⟩
  have HB1 := Lib.hid (HB.out.trans (hb1.mono HB.out.size))
  clear hb1
  go_wp2_with fail
  go_ret
  exact ⟨rfl, HB1.out⟩
end Go.Proofs.YtnpmeolibdjgpaaGreatDoor
