/-
  SHA-256, the code's: a round.
-/
import Derived.Test.YtokddfbjjghpkaaDoorTwoSpun
namespace Go.Proofs.YtokddfbjjghpkaaDoor
open Go.RowKit

def turnX (n : Nat) (s : S8) : Nat := addW (addW (addW s.h (sig1 s.e)) (chW s.e s.f s.g)) n
def turnN (n : Nat) (s : S8) : S8 := ⟨addW (turnX n s) (twoY s), s.a, s.b, s.c, addW s.d (turnX n s), s.e, s.f, s.g⟩
theorem turnN_step (k x : Nat) (s : S8) : turnN (addW k x) s = step2 k x s := by
  have e : turnX (addW k x) s = twoX k x s := by unfold turnX twoX addW; omega
  unfold turnN step2
  rw [e]

theorem two_new (w : World) (A B : Array Value) (t1 t2 : TypeId) : ∃ W, W = (w.alloc (.cells A t1)).alloc (.cells B t2) ∧ Blk W w.heap.size t1 A ∧ Blk W (w.heap.size + 1) t2 B ∧ Below w.heap.size w W ∧ W.heap.size = w.heap.size + 2 := by
  refine ⟨_, rfl, (Blk.new w t1 A).alloc _, ?_, ((Below.refl _ _).alloc (Nat.le_refl _) _).alloc (by simp) _, by simp⟩
  have := Blk.new (w.alloc (.cells A t1)) t2 B
  simpa using this

theorem turned_cells (a b c d e f g h n s1 s0 F : Nat) (hs1 : s1 = sig1 e) (hs0 : s0 = sig0 a) (hF : F = chW e f g) :
    #[Value.int .u32 (((h : Int) + (s1 : Int) + (F : Int) + (n : Int) + ((s0 : Int) + ((majW a b c : Nat) : Int))) % 4294967296), .int .u32 (a : Int), .int .u32 (b : Int), .int .u32 (c : Int), .int .u32 (((d : Int) + ((h : Int) + (s1 : Int) + (F : Int) + (n : Int))) % 4294967296), .int .u32 (e : Int), .int .u32 (f : Int), .int .u32 (g : Int)] = s8Cells (turnN n ⟨a, b, c, d, e, f, g, h⟩) := by
  subst hs1 hs0 hF
  have e1 : ((addW (turnX n ⟨a, b, c, d, e, f, g, h⟩) (twoY ⟨a, b, c, d, e, f, g, h⟩) : Nat) : Int) = ((h : Int) + ((sig1 e : Nat) : Int) + ((chW e f g : Nat) : Int) + (n : Int) + (((sig0 a : Nat) : Int) + ((majW a b c : Nat) : Int))) % 4294967296 := by unfold turnX twoY addW; simp only; omega
  have e2 : ((addW d (turnX n ⟨a, b, c, d, e, f, g, h⟩) : Nat) : Int) = ((d : Int) + ((h : Int) + ((sig1 e : Nat) : Int) + ((chW e f g : Nat) : Int) + (n : Int))) % 4294967296 := by unfold turnX addW; simp only; omega
  rw [← e1, ← e2]
  rfl

set_option maxRecDepth 100000 in
set_option maxHeartbeats 4000000 in
theorem turned_any (s : S8) (n : Nat) (w : World) (hs : s.ok) :
    Calls Tryd.prog 41 #[.agg (s8Cells s), .int .u32 (n : Int)] w fun e w' => e = .returned (.agg (s8Cells (turnN n s))) ∧ Below w.heap.size w w' := by
  obtain ⟨xa, xb, xc, xd, xe, xf, xg, xh⟩ := s
  obtain ⟨⟨ha, hb, hc, hd⟩, ⟨he, hf, hg, hh⟩⟩ := hs
  simp only at ha hb hc hd he hf hg hh
  have HE := Lib.hid (fun w => spun_e xe w he)
  have HA := Lib.hid (fun w => spun_a xa w ha)
  have hch : Hid (bits .xor .u32 (bits .and .u32 (xe : Int) (xf : Int)) (bits .and .u32 (bits .xor .u32 IntKind.u32.max (xe : Int)) (xg : Int)) = ((chW xe xf xg : Nat) : Int)) := Lib.hid (by
    rw [u32_and_nat xe xf he hf, not_word xe he, u32_and_nat _ xg (xor_lt (by decide) he) hg, u32_xor_nat _ _ (and_lt _ hf) (and_lt _ hg)]
    rfl)
  have hmj : Hid (bits .xor .u32 (bits .xor .u32 (bits .and .u32 (xa : Int) (xb : Int)) (bits .and .u32 (xa : Int) (xc : Int))) (bits .and .u32 (xb : Int) (xc : Int)) = ((majW xa xb xc : Nat) : Int)) := Lib.hid (by
    rw [u32_and_nat xa xb ha hb, u32_and_nat xa xc ha hc, u32_and_nat xb xc hb hc, u32_xor_nat _ _ (and_lt _ hb) (and_lt _ hc), u32_xor_nat _ _ (xor_lt (and_lt _ hb) (and_lt _ hc)) (and_lt _ hc)]
    rfl)
  clear ha hb hc hd he hf hg hh
  obtain ⟨s1, hs1⟩ : ∃ r, r = sig1 xe := ⟨_, rfl⟩
  obtain ⟨s0, hs0⟩ : ∃ r, r = sig0 xa := ⟨_, rfl⟩
  rw [← hs1] at HE
  rw [← hs0] at HA
  have HS := Lib.hid (And.intro hs1 hs0)
  clear hs1 hs0
  obtain ⟨IC, hIC⟩ : ∃ IC, IC = s8Cells ⟨xa, xb, xc, xd, xe, xf, xg, xh⟩ := ⟨_, rfl⟩
  rw [← hIC]
  have hIC' : IC = #[Value.int .u32 (xa : Int), .int .u32 (xb : Int), .int .u32 (xc : Int), .int .u32 (xd : Int), .int .u32 (xe : Int), .int .u32 (xf : Int), .int .u32 (xg : Int), .int .u32 (xh : Int)] := hIC
  clear hIC
  subst hIC'
  go_enter Tryd.func41, Tryd.ntmps41
  go_upto_region 1 with fail
  obtain ⟨W, hW, b1, b2, hb, hWs⟩ := two_new w #[Value.int .u32 (xa : Int), .int .u32 (xb : Int), .int .u32 (xc : Int), .int .u32 (xd : Int), .int .u32 (xe : Int), .int .u32 (xf : Int), .int .u32 (xg : Int), .int .u32 (xh : Int)] #[Value.int .u32 0, .int .u32 0, .int .u32 0, .int .u32 0, .int .u32 0, .int .u32 0, .int .u32 0, .int .u32 0] 59 59
  rw [← hW]
  clear hW
  have c0 : W.cell? ⟨w.heap.size, 0, none⟩ = some (.int .u32 (xa : Int)) := by rw [b1.cell]; rfl
  have c1 : W.cell? ⟨w.heap.size, 1, none⟩ = some (.int .u32 (xb : Int)) := by rw [b1.cell]; rfl
  have c2 : W.cell? ⟨w.heap.size, 2, none⟩ = some (.int .u32 (xc : Int)) := by rw [b1.cell]; rfl
  have c3 : W.cell? ⟨w.heap.size, 3, none⟩ = some (.int .u32 (xd : Int)) := by rw [b1.cell]; rfl
  have c4 : W.cell? ⟨w.heap.size, 4, none⟩ = some (.int .u32 (xe : Int)) := by rw [b1.cell]; rfl
  have c5 : W.cell? ⟨w.heap.size, 5, none⟩ = some (.int .u32 (xf : Int)) := by rw [b1.cell]; rfl
  have c6 : W.cell? ⟨w.heap.size, 6, none⟩ = some (.int .u32 (xg : Int)) := by rw [b1.cell]; rfl
  have c7 : W.cell? ⟨w.heap.size, 7, none⟩ = some (.int .u32 (xh : Int)) := by rw [b1.cell]; rfl
  have HB2 := Lib.hid b2
  have HB := Lib.hid hb
  clear b1 b2 hb hWs
  go_wp2_with fail
  go_quiet (fail)
  go_upto_region 2 with fail
  generalize hw5 : W.drewN _ = w5
  have d6 : w5.cell? ⟨w.heap.size, 6, none⟩ = some (.int .u32 (xg : Int)) := by rw [← hw5]; exact c6
  have d7 : w5.cell? ⟨w.heap.size, 7, none⟩ = some (.int .u32 (xh : Int)) := by rw [← hw5]; exact c7
  have HB5 : Hid (Below w.heap.size w w5) := Lib.hid (by rw [← hw5]; exact ⟨HB.out.os, HB.out.tape, HB.out.output, HB.out.size, HB.out.block⟩)
  have HC5 : Hid (Blk w5 (w.heap.size + 1) 59 #[Value.int .u32 0, .int .u32 0, .int .u32 0, .int .u32 0, .int .u32 0, .int .u32 0, .int .u32 0, .int .u32 0]) := Lib.hid (by rw [← hw5]; exact HB2.out)
  clear c0 c1 c2 c3 c4 c5 c6 c7 hw5 HB HB2
  go_quiet (first | (go_at_call 56; refine Calls.quiet_of_same (HE.out _)))
  go_upto_region 3 with fail
  have hif : (if IntKind.u32.signed = true then (-1 : Int) else IntKind.u32.max) = IntKind.u32.max := rfl
  try rw [hif]
  clear hif
  rw [hch.out]
  generalize hw6 : w5.drewN _ = w6
  have e6 : w6.cell? ⟨w.heap.size, 6, none⟩ = some (.int .u32 (xg : Int)) := by rw [← hw6]; exact d6
  have HB6 : Hid (Below w.heap.size w w6) := Lib.hid (by rw [← hw6]; exact ⟨HB5.out.os, HB5.out.tape, HB5.out.output, HB5.out.size, HB5.out.block⟩)
  have HC6 : Hid (Blk w6 (w.heap.size + 1) 59 #[Value.int .u32 0, .int .u32 0, .int .u32 0, .int .u32 0, .int .u32 0, .int .u32 0, .int .u32 0, .int .u32 0]) := Lib.hid (by rw [← hw6]; exact HC5.out)
  clear d6 d7 hw6 HB5 HC5
  obtain ⟨F, hF⟩ : ∃ F, F = chW xe xf xg := ⟨_, rfl⟩
  rw [← hF]
  have HF := Lib.hid hF
  clear hF
  have q0 : w6.cell? ⟨w.heap.size + 1, 0, none⟩ = some (.int .u32 0) := by rw [HC6.out.cell]; rfl
  have f0 := HC6.out.frozen 0
  have q1 : w6.cell? ⟨w.heap.size + 1, 1, none⟩ = some (.int .u32 0) := by rw [HC6.out.cell]; rfl
  have f1 := HC6.out.frozen 1
  have q2 : w6.cell? ⟨w.heap.size + 1, 2, none⟩ = some (.int .u32 0) := by rw [HC6.out.cell]; rfl
  have f2 := HC6.out.frozen 2
  have q3 : w6.cell? ⟨w.heap.size + 1, 3, none⟩ = some (.int .u32 0) := by rw [HC6.out.cell]; rfl
  have f3 := HC6.out.frozen 3
  have q4 : w6.cell? ⟨w.heap.size + 1, 4, none⟩ = some (.int .u32 0) := by rw [HC6.out.cell]; rfl
  have f4 := HC6.out.frozen 4
  have q5 : w6.cell? ⟨w.heap.size + 1, 5, none⟩ = some (.int .u32 0) := by rw [HC6.out.cell]; rfl
  have f5 := HC6.out.frozen 5
  have q6 : w6.cell? ⟨w.heap.size + 1, 6, none⟩ = some (.int .u32 0) := by rw [HC6.out.cell]; rfl
  have f6 := HC6.out.frozen 6
  have q7 : w6.cell? ⟨w.heap.size + 1, 7, none⟩ = some (.int .u32 0) := by rw [HC6.out.cell]; rfl
  have f7 := HC6.out.frozen 7
  go_wp2_with (go_at_call 56; refine (HA.out _).mono ?_; rintro e1 w1 ⟨rfl, rfl⟩)
  clear q0 f0 q1 f1 q2 f2 q3 f3 q4 f4 q5 f5 q6 f6 q7 f7
  rw [hmj.out]
  refine ret_cell rfl rfl (run_var_part ((((((((HC6.out.put 0 _).put 1 _).put 2 _).put 3 _).put 4 _).put 5 _).put 6 _).put 7 _) (fun j v h => by rw [Nat.zero_add]; exact h) (fun w => by kernel_rfl) (fun w => by kernel_rfl)) rfl ⟨?_, ?_⟩
  · exact congrArg (fun t => Ending.returned (Value.agg t)) (turned_cells xa xb xc xd xe xf xg xh n s1 s0 F HS.out.1 HS.out.2 HF.out)
  · exact ((((((((HB6.out.setCell (by simp) _).setCell (by simp) _).setCell (by simp) _).setCell (by simp) _).setCell (by simp) _).setCell (by simp) _).setCell (by simp) _).setCell (by simp) _)
end Go.Proofs.YtokddfbjjghpkaaDoor
