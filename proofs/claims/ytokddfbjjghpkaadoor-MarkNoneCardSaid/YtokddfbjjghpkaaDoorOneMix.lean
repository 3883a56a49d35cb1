/-
  A block mixed in: the code's.
-/
import Derived.Test.YtokddfbjjghpkaaDoorOneWords
namespace Go.Proofs.YtokddfbjjghpkaaDoor
open Go.RowKit

def stCells (s : St) : Array Value := #[.int .u32 (s.a : Int), .int .u32 (s.b : Int), .int .u32 (s.c : Int), .int .u32 (s.d : Int), .int .u32 (s.e : Int)]

theorem sum5 (a b c d e : Nat) (s t u v : Nat) : Value.int .u32 (((St.mk (addW (addW (addW (addW a b) c) d) e) s t u v).a : Nat) : Int) = .int .u32 (((a : Int) + b + c + d + e) % 4294967296) := by
  have : ((addW (addW (addW (addW a b) c) d) e : Nat) : Int) = ((a : Int) + b + c + d + e) % 4294967296 := by unfold addW; omega
  show Value.int .u32 ((addW (addW (addW (addW a b) c) d) e : Nat) : Int) = _
  rw [this]
theorem plus_cells (a b c d e : Nat) (x : St) :
    #[Value.int .u32 (((a : Int) + (x.a : Int)) % 4294967296), .int .u32 (((b : Int) + (x.b : Int)) % 4294967296), .int .u32 (((c : Int) + (x.c : Int)) % 4294967296), .int .u32 (((d : Int) + (x.d : Int)) % 4294967296), .int .u32 (((e : Int) + (x.e : Int)) % 4294967296)] = stCells ((St.mk a b c d e).plus x) := by
  unfold stCells St.plus
  simp only [addW_cast]
/-- What the rounds leave as it is. -/
def Keep3 (w0 w : World) (B g : Nat) (H Z W : Array Value) : Prop := Blk w B 52 H ∧ Blk w (B + 1 + 1) 52 Z ∧ Blk w g 102 W ∧ Below B w0 w
theorem Keep3.drewN {w0 w : World} {B g : Nat} {H Z W : Array Value} (h : Keep3 w0 w B g H Z W) (n : Nat) : Keep3 w0 (w.drewN n) B g H Z W := ⟨h.1.drewN n, h.2.1.drewN n, h.2.2.1.drewN n, ⟨h.2.2.2.os, h.2.2.2.tape, h.2.2.2.output, h.2.2.2.size, h.2.2.2.block⟩⟩

set_option maxRecDepth 100000 in
set_option maxHeartbeats 2000000 in
theorem mixed_any (p : Nat → UInt8) (s : St) (w : World) (hs : s.ok) :
    Calls Tryd.prog 37 #[.agg (stCells s), .agg (byteCells' p 64).toArray] w fun e w' => e = .returned (.agg (stCells (mixB p s))) ∧ Below w.heap.size w w' := by
  obtain ⟨PC, hPC⟩ : ∃ PC, PC = (byteCells' p 64).toArray := ⟨_, rfl⟩
  have HPC := Lib.hid hPC
  rw [← hPC]
  obtain ⟨WC, hWC⟩ : ∃ WC, WC = (wordCells (wordsB p 80)).toArray := ⟨_, rfl⟩
  have HW : Hid (∀ w, Calls Tryd.prog 52 #[.agg PC] w fun e w' => e = .returned (.agg WC) ∧ Below w.heap.size w w') := Lib.hid (by rw [hPC, hWC]; exact fun w => words_any p w)
  have HWC := Lib.hid hWC
  have hWs : WC.size = 80 := by rw [hWC]; unfold wordCells; simp [wordsB_length]
  have hPs : PC.size = 64 := by rw [hPC]; unfold byteCells'; simp
  have hW1 : WC.all (·.oneCell') = true := by rw [hWC]; unfold wordCells; simp [Value.oneCell']
  clear hPC hWC
  have hz : ∀ w, (zeroValue 102).run Tryd.prog w = .ok (.agg (arrW [])) w := fun w => by rw [arrW_nil]; kernel_rfl
  obtain ⟨Z, hZ⟩ : ∃ Z, Z = arrW [] := ⟨_, rfl⟩
  rw [← hZ] at hz
  have hZs : Z.size = 80 := by rw [hZ]; exact arrW_size (by simp)
  clear hZ
  have HSW : Hid (∀ w, (sizeOf 102).run Tryd.prog w = .ok WC.size w) := Lib.hid (fun w => by rw [hWs]; kernel_rfl)
  have HSP : Hid (∀ w, (sizeOf 53).run Tryd.prog w = .ok PC.size w) := Lib.hid (fun w => by rw [hPs]; kernel_rfl)
  have HAP : Hid (∀ w, (isAgg 53).run Tryd.prog w = .ok true w) := Lib.hid (fun w => by kernel_rfl)
  have HZW := Lib.hid (hWs.trans hZs.symm)
  have HW1 := Lib.hid hW1
  clear hWs hPs hW1 hZs
  obtain ⟨s0, hs0⟩ : ∃ s0, s0 = s := ⟨_, rfl⟩
  have HS0 := Lib.hid hs0
  clear hs0
  obtain ⟨a, b, c, d, e⟩ := s
  unfold stCells
  go_enter Tryd.func37, Tryd.ntmps37
  go_upto_region 1 with fail
  obtain ⟨W, hW, b1, b2, b3, hb, hWs⟩ := three_new w #[Value.int .u32 (a : Int), .int .u32 (b : Int), .int .u32 (c : Int), .int .u32 (d : Int), .int .u32 (e : Int)] PC #[Value.int .u32 0, .int .u32 0, .int .u32 0, .int .u32 0, .int .u32 0] 52 53 52
  rw [← hW]
  clear hW
  refine wp_region_lit ?_
  refine wpList_load rfl rfl rfl (load_whole b2 HAP.out HSP.out) ?_
  refine wpList_call (f := 52) (args := #[.agg PC]) rfl (by go_simp) ((HW.out W).mono ?_)
  rintro e1 w1 ⟨rfl, hb1⟩
  refine ⟨_, rfl, ?_⟩
  refine wpList_value (v := .pointer (some ⟨w1.heap.size, 0, none⟩)) (w' := w1.alloc (.cells Z 102)) rfl (by go_simp) ?_
  refine wpList_store rfl rfl rfl rfl (store_whole (Blk.new w1 _ Z) HZW.out HW1.out HSW.out) ?_
  obtain ⟨g, hg⟩ : ∃ g, g = w1.heap.size := ⟨_, rfl⟩
  have c1 := (b1.below hb1 (by omega)).alloc (.cells Z 102)
  have c3 := (b3.below hb1 (by omega)).alloc (.cells Z 102)
  have c4 := blk_setRow (Blk.new w1 102 Z) WC
  have hs1 := hb1.size
  have d1 := blk_setRow_far c1 (g' := w1.heap.size) (by omega) WC
  have d3 := blk_setRow_far c3 (g' := w1.heap.size) (by omega) WC
  have hb2 : Below w.heap.size w ((w1.alloc (.cells Z 102)).setRow w1.heap.size WC) := below_setRow ((hb.trans (hb1.mono (by omega))).alloc (by omega) _) (by omega) _
  obtain ⟨W2, hW2⟩ : ∃ W2, W2 = (w1.alloc (.cells Z 102)).setRow w1.heap.size WC := ⟨_, rfl⟩
  rw [← hW2] at d1 d3 c4 hb2
  rw [← hW2]
  rw [← hg] at c4
  rw [← hg]
  have hg3 : w.heap.size + 3 ≤ g := by omega
  clear hW2 hg hs1 hb1 b1 b2 b3 hb hWs hz
  have HC1 := Lib.hid d1
  have HC3 := Lib.hid d3
  have HC4 := Lib.hid c4
  have HB := Lib.hid hb2
  clear c1 c3 d1 d3 c4 hb2
  clear w1 W
  have r0 : W2.cell? ⟨w.heap.size, 0, none⟩ = some (.int .u32 (a : Int)) := by rw [HC1.out.cell]; rfl
  have r1 : W2.cell? ⟨w.heap.size, 1, none⟩ = some (.int .u32 (b : Int)) := by rw [HC1.out.cell]; rfl
  have r2 : W2.cell? ⟨w.heap.size, 2, none⟩ = some (.int .u32 (c : Int)) := by rw [HC1.out.cell]; rfl
  have r3 : W2.cell? ⟨w.heap.size, 3, none⟩ = some (.int .u32 (d : Int)) := by rw [HC1.out.cell]; rfl
  have r4 : W2.cell? ⟨w.heap.size, 4, none⟩ = some (.int .u32 (e : Int)) := by rw [HC1.out.cell]; rfl
  go_wp2_with fail
  go_quiet (fail)
  go_wp2_with fail
  obtain ⟨L, hL⟩ : ∃ L, L = wordsB p 80 := ⟨_, rfl⟩
  have HLL : Hid (L.length = 80) := Lib.hid (by rw [hL]; exact wordsB_length p 80)
  have HLT : Hid (∀ i, L.getD i 0 < 4294967296) := Lib.hid (fun i => by rw [hL]; exact getD_lt (wordsB_lt p 80) (by decide) i)
  have HLW : Hid (WC = (wordCells L).toArray) := Lib.hid (by rw [hL]; exact HWC.out)
  have HLm : Hid (mixB p s0 = s0.plus (stepsW L 80 s0)) := Lib.hid (by rw [hL]; rfl)
  clear hL
  have HOK : Hid s0.ok := Lib.hid (by rw [HS0.out]; exact hs)
  clear hs r0 r1 r2 r3 r4
  obtain ⟨HCs, hHCs⟩ : ∃ X, X = #[Value.int .u32 (a : Int), .int .u32 (b : Int), .int .u32 (c : Int), .int .u32 (d : Int), .int .u32 (e : Int)] := ⟨_, rfl⟩
  obtain ⟨ZCs, hZCs⟩ : ∃ X, X = #[Value.int .u32 0, .int .u32 0, .int .u32 0, .int .u32 0, .int .u32 0] := ⟨_, rfl⟩
  have HK : Hid (Keep3 w W2 w.heap.size g HCs ZCs WC) := Lib.hid ⟨by rw [hHCs]; exact HC1.out, by rw [hZCs]; exact HC3.out, HC4.out, HB.out⟩
  have HHC := Lib.hid hHCs
  have HZC := Lib.hid hZCs
  clear hHCs hZCs HC1 HC3 HC4 HB
  go_loopw [6, 7, 8, 9, 10, 27] (fun v6 v7 v8 v9 v10 i wr => ∃ (j : Nat) (x : St), j ≤ 80 ∧ i = .int .i64 j ∧ x = stepsW L j s0 ∧ v6 = .int .u32 (x.a : Int) ∧ v7 = .int .u32 (x.b : Int) ∧ v8 = .int .u32 (x.c : Int) ∧ v9 = .int .u32 (x.d : Int) ∧ v10 = .int .u32 (x.e : Int) ∧ Keep3 w wr w.heap.size g HCs ZCs WC) (fun _ _ _ _ _ i _ => 80 - (intOf i).toNat)
  case atStart => exact ⟨0, s0, by omega, rfl, rfl, by rw [HS0.out], by rw [HS0.out], by rw [HS0.out], by rw [HS0.out], by rw [HS0.out], HK.out.drewN _⟩
  case round =>
    obtain ⟨j, x, hj, rfl, hx, rfl, rfl, rfl, rfl, rfl, hk3⟩ := hrel
    have HK3 := Lib.hid hk3
    clear hk3
    have HX := Lib.hid hx
    have hok : x.ok := by rw [hx]; exact stepsW_ok L j HOK.out
    clear hx
    by_cases hlt : j < 80
    · have HN : Hid (stepsW L (j + 1) s0 = stepW (L.getD j 0) j x) := Lib.hid (by rw [HX.out]; rfl)
      clear HX
      have hcw : wr.cell? ⟨g, j, none⟩ = some (.int .u32 ((L.getD j 0 : Nat) : Int)) := by rw [HK3.out.2.2.1.cell, HLW.out]; exact words_get (by rw [HLL.out]; exact hlt)
      have hlt' : (j : Int) < 80 := by omega
      obtain ⟨y, hy⟩ : ∃ y, y = L.getD j 0 := ⟨_, rfl⟩
      rw [← hy] at hcw HN
      clear hy
      obtain ⟨xa, xb, xc, xd, xe⟩ := x
      obtain ⟨ha, hb, hc, hd, he⟩ := hok
      simp only at ha hb hc hd he
      simp only
      have HCh := Lib.hid (fun w => choose_any j xb xc xd w hb hc hd)
      have HRa := Lib.hid (fun w => rot_still xa 5 w ha (Or.inr (Or.inl rfl)))
      have HRb := Lib.hid (fun w => rot_still xb 30 w hb (Or.inr (Or.inr rfl)))
      unfold stepW at HN
      simp only at HN
      obtain ⟨F, hF⟩ : ∃ F, F = pickW j xb xc xd := ⟨_, rfl⟩
      obtain ⟨k, hk⟩ : ∃ k, k = kayW j := ⟨_, rfl⟩
      obtain ⟨ra, hra⟩ : ∃ r, r = rotl xa 5 := ⟨_, rfl⟩
      obtain ⟨rb, hrb⟩ : ∃ r, r = rotl xb 30 := ⟨_, rfl⟩
      rw [← hF, ← hk] at HCh
      rw [← hF, ← hk, ← hra, ← hrb] at HN
      rw [← hra] at HRa
      rw [← hrb] at HRb
      clear hF hk hra hrb ha hb hc hd he
      go_wp2_with (go_at_call 53; refine (HCh.out _).mono ?_; rintro e1 w1 ⟨rfl, rfl⟩)
      go_quiet (first | (go_at_call 54; refine Calls.quiet_of_same (HRa.out _)))
      go_wp2_with (go_at_call 54; refine (HRb.out _).mono ?_; rintro e1 w1 ⟨rfl, rfl⟩)
      go_roundw
      case rel =>
        exact ⟨j + 1, stepsW L (j + 1) s0, by omega, by go_num, rfl, by rw [HN.out, sum5], by rw [HN.out], by rw [HN.out], by rw [HN.out], by rw [HN.out], HK3.out.drewN _⟩
      case measure => simp [intOf]; omega
    · obtain rfl : j = 80 := by omega
      have r0 : wr.cell? ⟨w.heap.size, 0, none⟩ = some (.int .u32 (a : Int)) := by rw [HK3.out.1.cell, HHC.out]; rfl
      have r1 : wr.cell? ⟨w.heap.size, 1, none⟩ = some (.int .u32 (b : Int)) := by rw [HK3.out.1.cell, HHC.out]; rfl
      have r2 : wr.cell? ⟨w.heap.size, 2, none⟩ = some (.int .u32 (c : Int)) := by rw [HK3.out.1.cell, HHC.out]; rfl
      have r3 : wr.cell? ⟨w.heap.size, 3, none⟩ = some (.int .u32 (d : Int)) := by rw [HK3.out.1.cell, HHC.out]; rfl
      have r4 : wr.cell? ⟨w.heap.size, 4, none⟩ = some (.int .u32 (e : Int)) := by rw [HK3.out.1.cell, HHC.out]; rfl
      have q0 : wr.cell? ⟨w.heap.size + 1 + 1, 0, none⟩ = some (.int .u32 0) := by rw [HK3.out.2.1.cell, HZC.out]; rfl
      have q1 : wr.cell? ⟨w.heap.size + 1 + 1, 1, none⟩ = some (.int .u32 0) := by rw [HK3.out.2.1.cell, HZC.out]; rfl
      have q2 : wr.cell? ⟨w.heap.size + 1 + 1, 2, none⟩ = some (.int .u32 0) := by rw [HK3.out.2.1.cell, HZC.out]; rfl
      have q3 : wr.cell? ⟨w.heap.size + 1 + 1, 3, none⟩ = some (.int .u32 0) := by rw [HK3.out.2.1.cell, HZC.out]; rfl
      have q4 : wr.cell? ⟨w.heap.size + 1 + 1, 4, none⟩ = some (.int .u32 0) := by rw [HK3.out.2.1.cell, HZC.out]; rfl
      have f0 := HK3.out.2.1.frozen 0
      have f1 := HK3.out.2.1.frozen 1
      have f2 := HK3.out.2.1.frozen 2
      have f3 := HK3.out.2.1.frozen 3
      have f4 := HK3.out.2.1.frozen 4
      go_wp2_with fail
      clear r0 r1 r2 r3 r4 q0 q1 q2 q3 q4 f0 f1 f2 f3 f4
      have hz : Blk wr (w.heap.size + 1 + 1) 52 #[Value.int .u32 0, .int .u32 0, .int .u32 0, .int .u32 0, .int .u32 0] := by rw [← HZC.out]; exact HK3.out.2.1
      have hm : (St.mk a b c d e).plus x = mixB p (St.mk a b c d e) := by rw [HX.out, ← HS0.out]; exact HLm.out.symm
      refine ret_cell rfl rfl (run_var_part (((((hz.put 0 _).put 1 _).put 2 _).put 3 _).put 4 _) (fun j v h => by rw [Nat.zero_add]; exact h) (fun w => by kernel_rfl) (fun w => by kernel_rfl)) rfl ⟨?_, ?_⟩
      · exact congrArg (fun t => Ending.returned (Value.agg t)) ((plus_cells a b c d e x).trans (congrArg stCells hm))
      · exact (((((HK3.out.2.2.2.setCell (by simp; omega) _).setCell (by simp; omega) _).setCell (by simp; omega) _).setCell (by simp; omega) _).setCell (by simp; omega) _)
end Go.Proofs.YtokddfbjjghpkaaDoor
