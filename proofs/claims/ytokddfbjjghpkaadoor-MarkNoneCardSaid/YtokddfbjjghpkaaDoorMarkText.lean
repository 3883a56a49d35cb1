/-
  Package mark's Text.
-/
import Derived.Test.YtokddfbjjghpkaaDoorMarkSmall
import Derived.Test.YtokddfbjjghpkaaDoorOneHex
import Derived.BigCall
import Derived.Laws.BitsAllLaws
namespace Go.Proofs.YtokddfbjjghpkaaDoor
open Go.RowKit

theorem list9 (l : List Value) (h : l.length = 9) : ∃ y0 y1 y2 y3 y4 y5 y6 y7 y8 : Value, l = [y0, y1, y2, y3, y4, y5, y6, y7, y8] := by
  match l, h with
  | [a, b, c, d, e, f, g, h, i], _ => exact ⟨a, b, c, d, e, f, g, h, i, rfl⟩
def mtextV (b : Value) (x : UInt8) : Nat → Value
  | 0 => b
  | 1 | 4 => .int .u8 (x.toNat : Int)
  | 2 => .int .u8 ((x.toNat / 16 : Nat) : Int)
  | 3 => .int .u8 ((hexD (x.toNat / 16)).toNat : Int)
  | 5 => .int .u8 ((x.toNat % 16 : Nat) : Int)
  | _ => .int .u8 ((hexD (x.toNat % 16)).toNat : Int)
theorem and15 (x : Nat) (h : x < 256) : bits .and .u8 (x : Int) 15 = ((x % 16 : Nat) : Int) := by
  rw [show (15 : Int) = ((15 : Nat) : Int) from rfl, u8_and_nat x 15 h (by omega)]
  congr 1
  exact Nat.and_two_pow_sub_one_eq_mod x 4

set_option maxRecDepth 100000 in
set_option maxHeartbeats 2000000 in
theorem mtext_none (k : Int) (s : ByteArray) (w : World) (h0 : s = .empty) :
    Calls Tryd.prog 8 #[.agg #[.int .i64 k, .string s]] w fun e w' => e = .returned (.string .empty) ∧ Below w.heap.size w w' := by
  obtain ⟨i0, hi, hz0, hz1, hz2⟩ := info_parts byte_info
  subst h0
  go_enter Tryd.func8, Tryd.ntmps8
  go_upto_region 1 with fail
  obtain ⟨W, hW⟩ : ∃ W, W = w.alloc (.cells #[.int .i64 k, .string .empty] 24) := ⟨_, rfl⟩
  have b0 : Blk W w.heap.size 24 #[.int .i64 k, .string .empty] := by rw [hW]; exact Blk.new w _ _
  have hbW : Below w.heap.size w W := by rw [hW]; exact (Below.refl _ _).alloc (Nat.le_refl _) _
  rw [← hW]
  clear hW
  have HBW := Lib.hid hbW
  have hWs : w.heap.size ≤ W.heap.size := hbW.size
  have hlt0 := b0.lt
  have c0 := b0.cell 1
  simp at c0
  obtain ⟨w1, hmk, hown, hbw⟩ := run_make_own (P := Tryd.prog) (w := W) W.heap.size 31 5 i0 (.int .u8 0) 1 Tryd.underlying31 hi hz0 hz1 .i64 .i64 0 (by rw [hz2]; omega) (by unfold maxLen; omega) (Nat.le_refl _)
  have hmk : (Instr.makeSlice 31 (.int .i64 0) (.int .i64 0)).run Tryd.prog W = .ok (.slice (some ⟨W.heap.size, 0, none⟩) 0 0) w1 := hmk
  have HOWN := Lib.hid hown
  have HB1 : Hid (Below W.heap.size W w1) := Lib.hid (below_by hbw)
  have c1 : w1.cell? ⟨w.heap.size, 1, none⟩ = some (.string .empty) := by rw [HB1.out.cell hlt0]; exact c0
  have hcv := row_text w1 _ W.heap.size 0 [] 0 rfl hown
  clear hown hbw hbW b0
  go_wp2_with fail
  go_loopw [3, 14] (fun b i wr => i = .int .i64 0 ∧ b = .slice (some ⟨W.heap.size, 0, none⟩) 0 0 ∧ wr = w1) (fun _ i _ => 0)
  case atStart => exact ⟨rfl, rfl, rfl⟩
  case round =>
    obtain ⟨rfl, rfl, rfl⟩ := hrel
    go_wp2_with fail
    go_ret
    exact ⟨rfl, HBW.out.trans (HB1.out.mono hWs)⟩

set_option maxRecDepth 100000 in
set_option maxHeartbeats 2000000 in
theorem mtext_some (k : Int) (s : ByteArray) (w : World) (hs : s.size ≤ 1000) (h0 : 0 < s.size) :
    Calls Tryd.prog 8 #[.agg #[.int .i64 k, .string s]] w fun e w' => e = .returned (.string ⟨(hexB s.data.toList).toArray⟩) ∧ Below w.heap.size w w' := by
  obtain ⟨i0, hi, hz0, hz1, hz2⟩ := info_parts byte_info
  go_enter Tryd.func8, Tryd.ntmps8
  go_upto_region 1 with fail
  obtain ⟨W, hW⟩ : ∃ W, W = w.alloc (.cells #[.int .i64 k, .string s] 24) := ⟨_, rfl⟩
  have b0 : Blk W w.heap.size 24 #[.int .i64 k, .string s] := by rw [hW]; exact Blk.new w _ _
  have hbW : Below w.heap.size w W := by rw [hW]; exact (Below.refl _ _).alloc (Nat.le_refl _) _
  rw [← hW]
  clear hW
  have HBW := Lib.hid hbW
  have hWs : w.heap.size ≤ W.heap.size := hbW.size
  have hlt0 := b0.lt
  have c0 := b0.cell 1
  simp at c0
  obtain ⟨w1, hmk, hown, hbw⟩ := run_make_own (P := Tryd.prog) (w := W) W.heap.size 31 5 i0 (.int .u8 0) 1 Tryd.underlying31 hi hz0 hz1 .i64 .i64 (2 * s.size) (by rw [hz2]; omega) (by unfold maxLen; omega) (Nat.le_refl _)
  have hmk : (Instr.makeSlice 31 (.int .i64 0) (.int .i64 (2 * (s.size : Int)))).run Tryd.prog W = .ok (.slice (some ⟨W.heap.size, 0, none⟩) 0 (2 * s.size)) w1 := by
    have := hmk
    rwa [show ((2 * s.size : Nat) : Int) = 2 * (s.size : Int) by omega] at this
  have HOWN := Lib.hid hown
  have HB1 : Hid (Below W.heap.size W w1) := Lib.hid (below_by hbw)
  have HB0 := Lib.hid b0
  have c1 : w1.cell? ⟨w.heap.size, 1, none⟩ = some (.string s) := by rw [HB1.out.cell hlt0]; exact c0
  clear hown hbw hbW b0
  go_wp2_with fail
  clear hmk c0 c1
  go_loopw [3, 14] (fun b i wr => ∃ j : Nat, j ≤ s.size ∧ i = .int .i64 j ∧ wr.ownsRow W.heap.size 5 1 b (2 * j) (Lib.byteCells (hexB (s.data.toList.take j))) ∧ Below W.heap.size W wr) (fun _ i _ => s.size - (intOf i).toNat)
  case atStart => exact ⟨0, Nat.zero_le _, rfl, by simpa [hexB, Lib.byteCells] using HOWN.out, HB1.out⟩
  case round =>
    obtain ⟨j, hj, rfl, hown, hbr⟩ := hrel
    have HOW := Lib.hid hown
    have HBR := Lib.hid hbr
    have c1 : wr.cell? ⟨w.heap.size, 1, none⟩ = some (.string s) := by rw [hbr.cell hlt0, HB0.out.cell]; rfl
    clear hown hbr
    by_cases hlt : j < s.size
    · obtain ⟨x, hx⟩ : ∃ x, x = s[j] := ⟨_, rfl⟩
      have hxj : s[j]? = some x := by rw [hx]; exact getElem?_pos s j hlt
      have HT : Hid (s.data.toList.take (j + 1) = s.data.toList.take j ++ [x]) := Lib.hid (by
        rw [hx, List.take_succ_eq_append_getElem (by rw [← Lib.size_eq]; exact hlt)]
        rfl)
      have hx256 := x.toNat_lt
      have hix := fun w => index_text w s j x hxj
      clear hx hxj
      go_upto_region 6 with fail
      refine wp_region_append 21 7 3 33 0 (mtextV u3 x) W.heap.size 31 5 i0 (.int .u8 0) u3 (2 * j) _ [.int .u8 ((hexD (x.toNat / 16)).toNat : Int), .int .u8 ((hexD (x.toNat % 16)).toNat : Int)]
        (by kernel_rfl) (by kernel_rfl) rfl (by kernel_rfl) (by kernel_rfl) rfl (by omega) (by omega) Tryd.underlying31 hi hz0 hz1 (by omega) rfl HOW.out HBR.out.size (by simp) (by simp [Value.oneCell']) (by simp; omega)
        ?hops ?hbuild _ _ rfl rfl rfl rfl (by omega) rfl rfl rfl rfl rfl ?hK
      case hops =>
        intro i hi y w1 hf hg hw
        rcases (show i = 0 ∨ i = 1 ∨ i = 2 ∨ i = 3 ∨ i = 4 ∨ i = 5 ∨ i = 6 by omega) with rfl | rfl | rfl | rfl | rfl | rfl | rfl
        · have e0 : y.tmps[3]?.getD undef = u3 := by rw [hf.2.2 3 (by omega)]; rfl
          clear hf hg hw
          refine wpOp_value (v := mtextV u3 x 0) (w' := w1) rfl rfl ?_ ⟨rfl, by_refl _ _⟩
          go_simp
          rfl
        · have e0 : y.tmps[5]?.getD undef = .int .u8 (x.toNat : Int) := by rw [hf.2.2 5 (by omega)]; rfl
          clear hf hg hw
          refine wpOp_value (v := mtextV u3 x 1) (w' := w1) rfl rfl ?_ ⟨rfl, by_refl _ _⟩
          go_simp
          rfl
        · have e1 : y.tmps[22]?.getD undef = .int .u8 (x.toNat : Int) := hw 1 (of_decide_eq_true (by kernel_rfl)) (by omega)
          clear hf hg hw
          refine wpOp_value (v := mtextV u3 x 2) (w' := w1) rfl rfl ?_ ⟨rfl, by_refl _ _⟩
          go_simp
          show Value.int .u8 ((x.toNat : Int) / 16) = .int .u8 ((x.toNat / 16 : Nat) : Int)
          congr 1
        · have e1 : y.tmps[23]?.getD undef = .int .u8 ((x.toNat / 16 : Nat) : Int) := hw 2 (of_decide_eq_true (by kernel_rfl)) (by omega)
          clear hf hg hw
          exact wpOp_value (v := mtextV u3 x 3) (w' := w1) rfl rfl (exec_index rfl rfl (by simpa [Act.eval] using e1) (index_hex w1 (x.toNat / 16) (by omega))) ⟨rfl, by_refl _ _⟩
        · have e0 : y.tmps[5]?.getD undef = .int .u8 (x.toNat : Int) := by rw [hf.2.2 5 (by omega)]; rfl
          clear hf hg hw
          refine wpOp_value (v := mtextV u3 x 4) (w' := w1) rfl rfl ?_ ⟨rfl, by_refl _ _⟩
          go_simp
          rfl
        · have e1 : y.tmps[25]?.getD undef = .int .u8 (x.toNat : Int) := hw 4 (of_decide_eq_true (by kernel_rfl)) (by omega)
          clear hf hg hw
          refine wpOp_value (v := mtextV u3 x 5) (w' := w1) rfl rfl ?_ ⟨rfl, by_refl _ _⟩
          go_simp
          exact congrArg (Value.int .u8) (and15 x.toNat x.toNat_lt)
        · have e1 : y.tmps[26]?.getD undef = .int .u8 ((x.toNat % 16 : Nat) : Int) := hw 5 (of_decide_eq_true (by kernel_rfl)) (by omega)
          clear hf hg hw
          exact wpOp_value (v := mtextV u3 x 6) (w' := w1) rfl rfl (exec_index rfl rfl (by simpa [Act.eval] using e1) (index_hex w1 (x.toNat % 16) (by omega))) ⟨rfl, by_refl _ _⟩
      case hbuild =>
        intro y w1 hw
        have e1 : y.tmps[24]?.getD undef = .int .u8 ((hexD (x.toNat / 16)).toNat : Int) := hw 3 (of_decide_eq_true (by kernel_rfl)) (by omega)
        have e2 : y.tmps[27]?.getD undef = .int .u8 ((hexD (x.toNat % 16)).toNat : Int) := hw 6 (of_decide_eq_true (by kernel_rfl)) (by omega)
        refine ⟨_, rfl, rfl, rfl, ?_⟩
        clear hw
        go_simp
      case hK =>
        intro y w2 g cap h1 h2 h3 h4 h5 h6 _
        have HO := Lib.hid h5
        have hb2 : Below W.heap.size W w2 := HBR.out.drew.grown h6 (by have := HBR.out.size; simpa using this) (fun k hk => (HOW.out.lt k hk).1)
        have HB2 := Lib.hid hb2
        clear h5 h6 hb2
        obtain ⟨ys, hys, rfl⟩ := frame_again 21 9 3 _ h1 (by exact h2) (fun s e k => h3 s e (by omega)) h4 (by omega) (by show 30 ≤ 33; omega)
        obtain ⟨k0, k1, k2, k3, k4, k5, k6, k7, k8, rfl⟩ := list9 ys hys
        clear h1 h2 h3 h4 hys
        simp only [List.take_succ_cons, List.take_zero, List.drop_succ_cons, List.drop_zero, List.cons_append, List.nil_append, List.set_cons_zero, List.set_cons_succ]
        go_wp2_with fail
        go_roundw
        case rel => exact ⟨j + 1, by omega, by go_num, by rw [HT.out, hexB_next, show 2 * (j + 1) = 2 * j + 2 by omega]; have h := HO.out; simp only [Lib.byteCells, List.map_append, List.map_cons, List.map_nil] at h ⊢; exact h, HB2.out⟩
        case measure => simp [intOf] <;> omega
    · obtain rfl : j = s.size := by omega
      have ht : s.data.toList.take s.size = s.data.toList := List.take_of_length_le (by rw [← Lib.size_eq]; exact Nat.le_refl _)
      have HO := HOW.out
      rw [ht] at HO
      obtain ⟨g, cap, rfl, hg0, hlt1⟩ := HO.form (by omega)
      have hcv := row_text wr _ g cap _ (2 * s.size) (by rw [hexB_length, ← Lib.size_eq]) HO
      clear HO ht c1
      go_wp2
      go_ret
      exact ⟨rfl, HBW.out.trans (HBR.out.mono hWs)⟩

theorem mtext_any (k : Int) (s : ByteArray) (w : World) (hs : s.size ≤ 1000) :
    Calls Tryd.prog 8 #[.agg #[.int .i64 k, .string s]] w fun e w' => e = .returned (.string ⟨(hexB s.data.toList).toArray⟩) ∧ Below w.heap.size w w' := by
  by_cases h0 : 0 < s.size
  · exact mtext_some k s w hs h0
  · have h : s = .empty := by
      obtain ⟨⟨l⟩⟩ := s
      have hl : ¬ 0 < l.length := h0
      cases l with
      | nil => rfl
      | cons a l => simp at hl
    rw [h]
    exact mtext_none k .empty w rfl
end Go.Proofs.YtokddfbjjghpkaaDoor
