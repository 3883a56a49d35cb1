/-
  SHA-256, the code's: the digest as a text; the number of a round.
-/
import Derived.Test.YtokddfbjjghpkaaDoorTwoTurned
import Derived.Test.YtokddfbjjghpkaaDoorTwoKey
namespace Go.Proofs.YtokddfbjjghpkaaDoor
open Go.RowKit

theorem index_eight (w : World) (SC : Array Value) {j : Nat} {y : Int} (hj : j < 8) (h : SC[j]? = some (.int .u32 y)) : (Instr.index 59 (.agg SC) (.int .i64 (j : Int))).run Tryd.prog w = .ok (.int .u32 y) w := by
  have hu : Tryd.prog.underlying 59 = some (.array 8 51) := by kernel_rfl
  have ha : ∀ w, (isAgg 51).run Tryd.prog w = .ok false w := fun w => by kernel_rfl
  have hs : ∀ w, (sizeOf 51).run Tryd.prog w = .ok 1 w := fun w => by kernel_rfl
  have hjI : (j : Int) < 8 := by omega
  simp [Instr.index, asIntOf, Sem.run_bind, run_underlying hu, Result.andThen, hs, part, ha, h, hj]
theorem index_key (w : World) (SC : Array Value) {j : Nat} {y : Int} (hj : j < 64) (h : SC[j]? = some (.int .u32 y)) : (Instr.index 85 (.agg SC) (.int .i64 (j : Int))).run Tryd.prog w = .ok (.int .u32 y) w := by
  have hu : Tryd.prog.underlying 85 = some (.array 64 51) := by kernel_rfl
  have ha : ∀ w, (isAgg 51).run Tryd.prog w = .ok false w := fun w => by kernel_rfl
  have hs : ∀ w, (sizeOf 51).run Tryd.prog w = .ok 1 w := fun w => by kernel_rfl
  have hjI : (j : Int) < 64 := by omega
  simp [Instr.index, asIntOf, Sem.run_bind, run_underlying hu, Result.andThen, hs, part, ha, h, hj]

def keyOf (t : Int) : Nat := if 0 ≤ t ∧ t < 64 then keysL.getD t.toNat 0 else 0
theorem four_bytes2 (l : List UInt8) (y : Nat) : Lib.byteCells l ++ [Value.int .u8 ((y : Int) / 16777216 % 256), .int .u8 ((y : Int) / 65536 % 256), .int .u8 ((y : Int) / 256 % 256), .int .u8 ((y : Int) % 256)] = Lib.byteCells (l ++ highB y 4) := by
  have e3 := shr_byte y (8 * 3)
  have e2 := shr_byte y (8 * 2)
  have e1 := shr_byte y (8 * 1)
  have e0 := shr_byte y (8 * 0)
  rw [show (2 : Int) ^ (8 * 3) = 16777216 from rfl] at e3
  rw [show (2 : Int) ^ (8 * 2) = 65536 from rfl] at e2
  rw [show (2 : Int) ^ (8 * 1) = 256 from rfl] at e1
  rw [show (2 : Int) ^ (8 * 0) = 1 from rfl, Int.ediv_one] at e0
  rw [e3, e2, e1, e0]
  simp [Lib.byteCells, highB]

set_option maxRecDepth 100000 in
set_option maxHeartbeats 2000000 in
theorem text_code (s : S8) (w : World) :
    Calls Tryd.prog 26 #[.agg (s8Cells s)] w fun e w' => e = .returned (.string ⟨s.text.toArray⟩) ∧ Below w.heap.size w w' := by
  obtain ⟨i0, hi, hz0, hz1, hz2⟩ := info_parts byte_info
  obtain ⟨SC, hSC⟩ : ∃ SC, SC = s8Cells s := ⟨_, rfl⟩
  rw [← hSC]
  have HSC := Lib.hid hSC
  have hs : ∀ w, (sizeOf 59).run Tryd.prog w = .ok SC.size w := fun w => by rw [hSC, show (s8Cells s).size = 8 from rfl]; kernel_rfl
  have ha : ∀ w, (isAgg 59).run Tryd.prog w = .ok true w := fun w => by kernel_rfl
  clear hSC
  have HA1 : Hid (Blk (w.alloc (.cells SC 59)) w.heap.size 59 SC) := Lib.hid (Blk.new w _ SC)
  have HB1 : Hid (Below w.heap.size w (w.alloc (.cells SC 59))) := Lib.hid ((Below.refl _ _).alloc (Nat.le_refl _) _)
  go_enter Tryd.func26, Tryd.ntmps26
  go_upto_region 1 with fail
  obtain ⟨W, hW⟩ : ∃ W, W = w.alloc (.cells SC 59) := ⟨_, rfl⟩
  rw [← hW] at HA1 HB1
  rw [← hW]
  have hWs : w.heap.size ≤ W.heap.size := HB1.out.size
  clear hW
  obtain ⟨w1, hmk, hown, hbw⟩ := run_make_own (P := Tryd.prog) (w := W) w.heap.size 31 5 i0 (.int .u8 0) 1 Tryd.underlying31 hi hz0 hz1 .i64 .i64 32 (by rw [hz2]; omega) (by unfold maxLen; omega) hWs
  have hmk : (Instr.makeSlice 31 (.int .i64 0) (.int .i64 32)).run Tryd.prog W = .ok (.slice (some ⟨W.heap.size, 0, none⟩) 0 32) w1 := hmk
  have HL : Hid ((Instr.loadAt 59 (.pointer (some ⟨w.heap.size, 0, none⟩))).run Tryd.prog w1 = .ok (.agg SC) w1) := Lib.hid (load_whole (HA1.out.grown hbw (by simp)) ha hs)
  have HOWN := Lib.hid hown
  have HB : Hid (Below w.heap.size w w1) := Lib.hid (HB1.out.trans ((below_by hbw).mono hWs))
  clear hown hbw hs ha HA1 HB1
  go_upto_region 2 with fail
  refine wp_region_lit ?_
  refine wpList_load rfl rfl rfl HL.out ?_
  go_wp2_with fail
  clear hmk
  go_loopw [3, 8] (fun b i wr => ∃ j : Nat, j ≤ 8 ∧ i = .int .i64 j ∧ wr.ownsRow w.heap.size 5 1 b (4 * j) (Lib.byteCells ((s.words.take j).flatMap fun x => highB x 4)) ∧ Below w.heap.size w wr) (fun _ i _ => 8 - (intOf i).toNat)
  case atStart => exact ⟨0, by omega, rfl, HOWN.out, HB.out⟩
  case round =>
    obtain ⟨j, hj, rfl, hown, hbr⟩ := hrel
    have HOW := Lib.hid hown
    clear hown
    by_cases hlt : j < 8
    · obtain ⟨y, hy⟩ : ∃ y, y = s.words.getD j 0 := ⟨_, rfl⟩
      have hyj : SC[j]? = some (.int .u32 (y : Int)) := by rw [HSC.out, hy]; exact s8_get s hlt
      have hw5 : s.words[j]? = some y := by rw [hy]; exact words8_some s hlt
      have hltI : (j : Int) < 8 := by omega
      have HT : Hid ((s.words.take (j + 1)).flatMap (fun x => highB x 4) = (s.words.take j).flatMap (fun x => highB x 4) ++ highB y 4) := Lib.hid (by rw [List.take_add_one, hw5]; simp)
      have HLL := Lib.hid (show (Lib.byteCells ((s.words.take j).flatMap fun x => highB x 4)).length = 4 * j by rw [byteCells_len]; exact words8_bytes s hlt)
      have hix := index_eight wr SC hlt hyj
      obtain ⟨l, hl⟩ : ∃ l, l = (s.words.take j).flatMap fun x => highB x 4 := ⟨_, rfl⟩
      rw [← hl] at HT HOW
      clear hy hw5 hl hyj
      go_wp2_with (at_builtin; refine wpList_append_lies _ rfl (.tmp 11) (.tmp 23) 31 rfl w.heap.size 5 i0 (.int .u8 0) 1 1 Tryd.underlying31 hi hz0 hz1 hz2 rfl (by omega) _ (4 * j) _ rfl (HOW.out.alloc _) ⟨wr.heap.size, 0, none⟩ 4 4 [.int .u8 ((y : Int) / 16777216 % 256), .int .u8 ((y : Int) / 65536 % 256), .int .u8 ((y : Int) / 256 % 256), .int .u8 ((y : Int) % 256)] rfl rfl ?c1 ?c2 (by omega) (by unfold maxLen; omega) (by omega) (by have := hbr.size; simp; omega) _ rfl ?_)
      case c1 =>
        intro a u ha
        match a, ha with
        | 0, ha => simp at ha; subst ha; simp [Addr.add]
        | 1, ha => simp at ha; subst ha; simp [Addr.add]
        | 2, ha => simp at ha; subst ha; simp [Addr.add]
        | 3, ha => simp at ha; subst ha; simp [Addr.add]
      case c2 =>
        intro u hu
        simp only [List.mem_cons, List.not_mem_nil, or_false] at hu
        rcases hu with rfl | rfl | rfl | rfl <;> rfl
      intro g' cap w2 hown1 hg1 hor hlt1
      have hb1 : Below w.heap.size w w2 := (hbr.alloc hbr.size _).grown hg1 (by have := hbr.size; simp; omega) (fun k hk => (HOW.out.lt k hk).1)
      have HB1 := Lib.hid hb1
      rw [four_bytes2, ← HT.out] at hown1
      have HOW2 := Lib.hid hown1
      clear hown1 hg1 hor hb1 hbr hix
      go_wp2
      go_roundw
      case rel => exact ⟨j + 1, by omega, by go_num, by rw [show 4 * (j + 1) = 4 * j + 4 by omega]; exact HOW2.out, HB1.out⟩
      case measure => simp [intOf] <;> omega
    · obtain rfl : j = 8 := by omega
      have HOW3 := HOW.out
      rw [show s.words.take 8 = s.words from rfl, show (s.words.flatMap fun x => highB x 4) = s.text from rfl] at HOW3
      obtain ⟨g', cap, rfl, hg0, hlt1⟩ := HOW3.form (by omega)
      have hcv := row_text wr _ g' cap _ (4 * 8) (text2_length s) HOW3
      clear HOW3
      go_wp2
      go_ret
      exact ⟨rfl, hbr⟩
end Go.Proofs.YtokddfbjjghpkaaDoor
