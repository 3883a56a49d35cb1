/-
  SHA-256, the code's: the numbers of the rounds.
-/
import Derived.Test.YtokddfbjjghpkaaDoorTwoSha
namespace Go.Proofs.YtokddfbjjghpkaaDoor
open Go.RowKit

theorem keyCells_size : keyCells.size = 64 := rfl
theorem keyCells_one : keyCells.all (·.oneCell') = true := by decide +kernel
set_option maxRecDepth 100000 in
set_option maxHeartbeats 1000000 in
theorem keys_code (w : World) :
    Calls Tryd.prog 39 #[] w fun e w' => e = .returned (.agg keyCells) ∧ Below w.heap.size w w' := by
  obtain ⟨Z, hZ⟩ : ∃ Z, Z = (List.replicate 64 (Value.int .u32 0)).toArray := ⟨_, rfl⟩
  have hz : ∀ w, (zeroValue 85).run Tryd.prog w = .ok (.agg Z) w := fun w => by rw [hZ]; kernel_rfl
  have hZs : Z.size = 64 := by rw [hZ]; rfl
  obtain ⟨K, hK⟩ : ∃ K, K = keyCells := ⟨_, rfl⟩
  have hKs : K.size = 64 := by rw [hK]; rfl
  have hK1 : K.all (·.oneCell') = true := by rw [hK]; exact keyCells_one
  have hs : ∀ w, (sizeOf 85).run Tryd.prog w = .ok K.size w := fun w => by rw [hKs]; kernel_rfl
  have ha : ∀ w, (isAgg 85).run Tryd.prog w = .ok true w := fun w => by kernel_rfl
  clear hZ
  go_enter Tryd.func39, Tryd.ntmps39
  go_upto_region 1 with fail
  refine wp_region_lit ?_
  refine wpList_value (v := .agg K) (w' := w.alloc (.cells Z 85)) rfl (by rw [hK]; kernel_rfl) ?_
  refine wpList_store rfl rfl rfl rfl (store_whole (Blk.new w _ Z) (hKs.trans hZs.symm) hK1 hs) ?_
  have hB : Blk ((w.alloc (.cells Z 85)).setRow w.heap.size K) w.heap.size 85 K := blk_setRow (Blk.new w _ Z) K
  have hb : Below w.heap.size w ((w.alloc (.cells Z 85)).setRow w.heap.size K) := below_setRow ((Below.refl _ _).alloc (Nat.le_refl _) _) (Nat.le_refl _) _
  obtain ⟨W, hW⟩ : ∃ W, W = (w.alloc (.cells Z 85)).setRow w.heap.size K := ⟨_, rfl⟩
  rw [← hW] at hB hb
  rw [← hW]
  have HR := Lib.hid (run_var_part (P := Tryd.prog) (off := 0) hB (fun j v h => by rw [Nat.zero_add]; exact h) ha hs)
  have HK := Lib.hid hK
  clear hz hs ha hW hB hK1 hK
  go_wp2_with fail
  refine ret_cell rfl rfl HR.out rfl ⟨by rw [HK.out], hb⟩
end Go.Proofs.YtokddfbjjghpkaaDoor
