/-
  The law's own comparison of two heads. No statement is proved here.
-/
import Derived.Test.YtpepabggpappgaaDoorHeadRead
import Derived.Test.YtpepabggpappgaaDoorHeadNext
namespace Go.Proofs.YtpepabggpappgaaDoor
open Go.RowKit

set_option maxRecDepth 100000 in
set_option maxHeartbeats 4000000 in
theorem hsame_any (h : HD) (A : Option Addr) (c : Nat) (A' : Option Addr) (c' : Nat) (w : World) (ha : h.At w A c) (ha' : h.At w A' c') :
    Calls Tryd.prog 8 #[h.val A c, h.val A' c'] w fun e w' => e = .returned (.bool true) ∧ Below w.heap.size w w' := by
  obtain ⟨seq, full, ts⟩ := h
  obtain ⟨hl, hf⟩ := ha
  obtain ⟨hl', -⟩ := ha'
  simp only at hl hf hl'
  unfold HD.val
  simp only
  obtain ⟨n, hn⟩ : ∃ n, n = ts.length := ⟨_, rfl⟩
  rw [← hn]
  have HN := Lib.hid hn
  have HL := Lib.hid hl
  have HL' := Lib.hid hl'
  have hnI : (n : Int) ≤ 1000000 := by omega
  have hff : (full != full) = false := by cases full <;> rfl
  clear hn hl hl' hf
  go_enter Tryd.func8, Tryd.ntmps8
  go_wp2_with fail
  obtain ⟨W, hW⟩ : ∃ W, W = (w.alloc (.cells #[.int .i64 seq, .bool full, .slice A n c] 26)).alloc (.cells #[.int .i64 seq, .bool full, .slice A' n c'] 26) := ⟨_, rfl⟩
  rw [← hW]
  have HB : Hid (Below w.heap.size w W) := Lib.hid (by rw [hW]; exact ((Below.refl _ _).alloc (Nat.le_refl _) _).alloc (by simp) _)
  have b1 : Blk W w.heap.size 26 #[.int .i64 seq, .bool full, .slice A n c] := by
    rw [hW]
    exact (Blk.new w _ _).below ((Below.refl _ _).alloc (Nat.le_refl _) _) (by simp)
  have b2 : Blk W (w.heap.size + 1) 26 #[.int .i64 seq, .bool full, .slice A' n c'] := by
    have := Blk.new (w.alloc (.cells #[.int .i64 seq, .bool full, .slice A n c] 26)) 26 #[.int .i64 seq, .bool full, .slice A' n c']
    rw [hW]
    rwa [show (w.alloc (.cells #[.int .i64 seq, .bool full, .slice A n c] 26)).heap.size = w.heap.size + 1 by simp] at this
  have c2 := b1.cell 2
  have d2 := b2.cell 2
  simp at c2 d2
  clear hW b1 b2
  go_loopw [5] (fun i wr => ∃ j k : Nat, j ≤ n ∧ i = .int .i64 j ∧ wr = W.drewN k) (fun i _ => n - (intOf i).toNat)
  case atStart => exact ⟨0, 0, Nat.zero_le _, rfl, rfl⟩
  case round =>
    obtain ⟨j, k, hj, rfl, rfl⟩ := hrel
    by_cases hlt : j < n
    · have hjl : j < ts.length := by rw [← HN.out]; exact hlt
      obtain ⟨x, hx⟩ : ∃ x, ts[j]? = some x := ⟨ts[j], List.getElem?_eq_getElem hjl⟩
      obtain ⟨b, off, rfl, hb, hc⟩ := HL.out (by omega)
      obtain ⟨b', off', rfl, hb', hc'⟩ := HL'.out (by omega)
      have e1 : W.cell? ⟨b, off + j, none⟩ = some (.int .i64 x) := (HB.out.cell (p := ⟨b, off + j, none⟩) hb).trans (hc j x hx)
      have e2 : W.cell? ⟨b', off' + j, none⟩ = some (.int .i64 x) := (HB.out.cell (p := ⟨b', off' + j, none⟩) hb').trans (hc' j x hx)
      have hjI : (j : Int) < (n : Int) := by omega
      clear hc hc' hx hjl
      go_wp2_with fail
      go_quiet (fail)
      go_wp2_with fail
      go_roundw
      case rel => exact ⟨j + 1, _, by omega, by go_num, rfl⟩
      case measure => simp [intOf]; omega
    · obtain rfl : j = n := by omega
      go_wp2_with fail
      go_ret
      exact ⟨rfl, ⟨HB.out.os, HB.out.tape, HB.out.output, HB.out.size, HB.out.block⟩⟩
end Go.Proofs.YtpepabggpappgaaDoor
