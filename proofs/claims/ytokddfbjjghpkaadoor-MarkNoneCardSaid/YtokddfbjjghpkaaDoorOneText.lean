/-
  The digest as a text, and what stands behind bytes: the code's.
-/
import Derived.Test.YtokddfbjjghpkaaDoorOneTake
import Derived.Test.YtokddfbjjghpkaaDoorOneHigh
namespace Go.Proofs.YtokddfbjjghpkaaDoor
open Go.RowKit

theorem index_word (w : World) (SC : Array Value) {j : Nat} {y : Int} (hj : j < 5) (h : SC[j]? = some (.int .u32 y)) : (Instr.index 52 (.agg SC) (.int .i64 (j : Int))).run Tryd.prog w = .ok (.int .u32 y) w := by
  have hu : Tryd.prog.underlying 52 = some (.array 5 51) := by kernel_rfl
  have ha : ∀ w, (isAgg 51).run Tryd.prog w = .ok false w := fun w => by kernel_rfl
  have hs : ∀ w, (sizeOf 51).run Tryd.prog w = .ok 1 w := fun w => by kernel_rfl
  have hjI : (j : Int) < 5 := by omega
  simp [Instr.index, asIntOf, Sem.run_bind, run_underlying hu, Result.andThen, hs, part, ha, h, hj]
theorem four_bytes (l : List UInt8) (y : Nat) : Lib.byteCells l ++ [Value.int .u8 ((y : Int) / 16777216 % 256), .int .u8 ((y : Int) / 65536 % 256), .int .u8 ((y : Int) / 256 % 256), .int .u8 ((y : Int) % 256)] = Lib.byteCells (l ++ highB y 4) := by
  have e3 := shr_byte y (8 * 3)
  have e2 := shr_byte y (8 * 2)
  have e1 := shr_byte y (8 * 1)
  have e0 := shr_byte y (8 * 0)
  rw [show (2 : Int) ^ (8 * 3) = 16777216 from rfl] at e3
  rw [show (2 : Int) ^ (8 * 2) = 65536 from rfl] at e2
  rw [show (2 : Int) ^ (8 * 1) = 256 from rfl] at e1
  rw [show (2 : Int) ^ (8 * 0) = 1 from rfl, Int.ediv_one] at e0
  rw [e3, e2, e1, e0]
  simp [Lib.byteCells, highB]
theorem words_bytes (s : St) {j : Nat} (h : j < 5) : ((s.words.take j).flatMap fun x => highB x 4).length = 4 * j := by
  match j, h with
  | 0, _ => rfl
  | 1, _ => rfl
  | 2, _ => rfl
  | 3, _ => rfl
  | 4, _ => rfl
theorem text_words (s : St) : s.words.flatMap (fun x => highB x 4) = s.text := by unfold St.words St.text; simp

set_option maxRecDepth 100000 in
set_option maxHeartbeats 2000000 in
theorem text_any (g : Nat) (s : St) (p : Nat → UInt8) (n : Nat) (w : World) (h : Blk w g 55 (digCells s p n)) :
    Calls Tryd.prog 23 #[.pointer (some ⟨g, 0, none⟩)] w fun e w' => e = .returned (.string ⟨s.text.toArray⟩) ∧ Below w.heap.size w w' := by
  obtain ⟨i0, hi, hz0, hz1, hz2⟩ := info_parts byte_info
  have H := Lib.hid h
  clear h
  have hc : ∀ i, i < 5 → w.cell? ⟨g, i, none⟩ = some (.int .u32 ((s.words.getD i 0 : Nat) : Int)) := fun i hi => by
    rw [H.out.cell]
    unfold digCells
    rw [List.getElem?_toArray, digL_state hi]
    match i, hi with
    | 0, _ => rfl
    | 1, _ => rfl
    | 2, _ => rfl
    | 3, _ => rfl
    | 4, _ => rfl
  clear hc
  obtain ⟨w1, hmk, hown, hbw⟩ := run_make_own (P := Tryd.prog) (w := w) w.heap.size 31 5 i0 (.int .u8 0) 1 Tryd.underlying31 hi hz0 hz1 .i64 .i64 20 (by rw [hz2]; omega) (by unfold maxLen; omega) (Nat.le_refl _)
  have hmk : (Instr.makeSlice 31 (.int .i64 0) (.int .i64 20)).run Tryd.prog w = .ok (.slice (some ⟨w.heap.size, 0, none⟩) 0 20) w1 := hmk
  obtain ⟨SC, hSC⟩ : ∃ SC, SC = stCells s := ⟨_, rfl⟩
  have HL : Hid ((Instr.loadAt 52 (.pointer (some ⟨g, 0, none⟩))).run Tryd.prog w1 = .ok (.agg SC) w1) := by
    rw [hSC]
    exact Lib.hid (run_load_part (P := Tryd.prog) (ty := 52) (off := 0) (cs := stCells s) (H.out.grown hbw (by simp)) (fun j v h => dig_state_get h) (fun w => by kernel_rfl) (fun w => by rw [show (stCells s).size = 5 from rfl]; kernel_rfl))
  have HOWN := Lib.hid hown
  have hbw' : Below w.heap.size w w1 := below_by hbw
  have HB := Lib.hid hbw'
  clear hown hbw hbw'
  have HSC := Lib.hid hSC
  have hSs : SC.size = 5 := by rw [hSC]; rfl
  clear hSC
  go_enter Tryd.func23, Tryd.ntmps23
  go_upto_region 2 with fail
  refine wp_region_lit ?_
  refine wpList_value (v := .pointer (some ⟨g, 0, none⟩)) (w' := w1) rfl (by go_simp) ?_
  refine wpList_value (v := .pointer (some ⟨g, 0, none⟩)) (w' := w1) rfl (by go_simp) ?_
  refine wpList_value (v := .pointer (some ⟨g, 0, none⟩)) (w' := w1) rfl (by go_simp) ?_
  refine wpList_load rfl rfl rfl HL.out ?_
  go_wp2_with fail
  clear hmk
  go_loopw [3, 11] (fun b i wr => ∃ j : Nat, j ≤ 5 ∧ i = .int .i64 j ∧ wr.ownsRow w.heap.size 5 1 b (4 * j) (Lib.byteCells ((s.words.take j).flatMap fun x => highB x 4)) ∧ Below w.heap.size w wr) (fun _ i _ => 5 - (intOf i).toNat)
  case atStart => exact ⟨0, by omega, rfl, HOWN.out, HB.out⟩
  case round =>
    obtain ⟨j, hj, rfl, hown, hbr⟩ := hrel
    have HOW := Lib.hid hown
    clear hown
    by_cases hlt : j < 5
    · obtain ⟨y, hy⟩ : ∃ y, y = s.words.getD j 0 := ⟨_, rfl⟩
      have hyj : SC[j]? = some (.int .u32 (y : Int)) := by
        rw [HSC.out, hy]
        match j, hlt with
        | 0, _ => rfl
        | 1, _ => rfl
        | 2, _ => rfl
        | 3, _ => rfl
        | 4, _ => rfl
      have hw5 : s.words[j]? = some y := by
        rw [hy]
        match j, hlt with
        | 0, _ => rfl
        | 1, _ => rfl
        | 2, _ => rfl
        | 3, _ => rfl
        | 4, _ => rfl
      have hltI : (j : Int) < 5 := by omega
      have HT : Hid ((s.words.take (j + 1)).flatMap (fun x => highB x 4) = (s.words.take j).flatMap (fun x => highB x 4) ++ highB y 4) := Lib.hid (by rw [List.take_add_one, hw5]; simp)
      have HLL := Lib.hid (show (Lib.byteCells ((s.words.take j).flatMap fun x => highB x 4)).length = 4 * j by rw [byteCells_len]; exact words_bytes s hlt)
      have hix := index_word wr SC hlt hyj
      obtain ⟨l, hl⟩ : ∃ l, l = (s.words.take j).flatMap fun x => highB x 4 := ⟨_, rfl⟩
      rw [← hl] at HT HOW
      clear hy hw5 hl hyj
      go_wp2_with (at_builtin; refine wpList_append_lies _ rfl (.tmp 14) (.tmp 26) 31 rfl w.heap.size 5 i0 (.int .u8 0) 1 1 Tryd.underlying31 hi hz0 hz1 hz2 rfl (by omega) _ (4 * j) _ rfl (HOW.out.alloc _) ⟨wr.heap.size, 0, none⟩ 4 4 [.int .u8 ((y : Int) / 16777216 % 256), .int .u8 ((y : Int) / 65536 % 256), .int .u8 ((y : Int) / 256 % 256), .int .u8 ((y : Int) % 256)] rfl rfl ?c1 ?c2 (by omega) (by unfold maxLen; omega) (by omega) (by have := hbr.size; simp; omega) _ rfl ?_)
      case c1 =>
        intro a u ha
        match a, ha with
        | 0, ha => simp at ha; subst ha; simp [Addr.add]
        | 1, ha => simp at ha; subst ha; simp [Addr.add]
        | 2, ha => simp at ha; subst ha; simp [Addr.add]
        | 3, ha => simp at ha; subst ha; simp [Addr.add]
      case c2 =>
        intro u hu
        simp only [List.mem_cons, List.not_mem_nil, or_false] at hu
        rcases hu with rfl | rfl | rfl | rfl <;> rfl
      intro g' cap w2 hown1 hg1 hor hlt1
      have hb1 : Below w.heap.size w w2 := (hbr.alloc hbr.size _).grown hg1 (by have := hbr.size; simp; omega) (fun k hk => (HOW.out.lt k hk).1)
      have HB1 := Lib.hid hb1
      rw [four_bytes, ← HT.out] at hown1
      have HOW2 := Lib.hid hown1
      clear hown1 hg1 hor hb1 hbr hix
      go_wp2
      go_roundw
      case rel => exact ⟨j + 1, by omega, by go_num, by rw [show 4 * (j + 1) = 4 * j + 4 by omega]; exact HOW2.out, HB1.out⟩
      case measure => simp [intOf] <;> omega
    · obtain rfl : j = 5 := by omega
      have HOW3 := HOW.out
      rw [show s.words.take 5 = s.words from rfl, text_words] at HOW3
      obtain ⟨g', cap, rfl, hg0, hlt1⟩ := HOW3.form (by omega)
      have hcv := row_text wr _ g' cap _ (4 * 5) (text_length s) HOW3
      clear HOW3
      go_wp2
      go_ret
      exact ⟨rfl, hbr⟩

end Go.Proofs.YtokddfbjjghpkaaDoor
