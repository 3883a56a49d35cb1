/-
  Bytes in sixteens: the statements' helper.
-/
import Derived.Test.YtpliknofjgbfjaaGreatDoorOneHigh
import Derived.Test.YtpliknofjgbfjaaGreatDoorRegionApp
import Derived.Test.YtpliknofjgbfjaaGreatDoorRowOps
import Derived.Deep.DeepCutAuto
import Derived.Deep.RegionWith
namespace Go.Proofs.YtpliknofjgbfjaaGreatDoor
open Go.RowKit

def hexK : ByteArray := ⟨#[48, 49, 50, 51, 52, 53, 54, 55, 56, 57, 97, 98, 99, 100, 101, 102]⟩
theorem index_hex (w : World) (i : Nat) (h : i < 16) : (Instr.index 9 (.string hexK) (.int .u8 (i : Int))).run Tryz.prog w = .ok (.int .u8 ((hexD i).toNat : Int)) w := by
  rcases (show i = 0 ∨ i = 1 ∨ i = 2 ∨ i = 3 ∨ i = 4 ∨ i = 5 ∨ i = 6 ∨ i = 7 ∨ i = 8 ∨ i = 9 ∨ i = 10 ∨ i = 11 ∨ i = 12 ∨ i = 13 ∨ i = 14 ∨ i = 15 by omega) with rfl | rfl | rfl | rfl | rfl | rfl | rfl | rfl | rfl | rfl | rfl | rfl | rfl | rfl | rfl | rfl <;> kernel_rfl
theorem index_text (w : World) (s : ByteArray) (j : Nat) (x : UInt8) (h : s[j]? = some x) : (Instr.index 9 (.string s) (.int .i64 (j : Int))).run Tryz.prog w = .ok (.int .u8 (x.toNat : Int)) w := by
  simp [Instr.index, asIntOf, Sem.run_bind, run_underlying Tryz.underlying9, Result.andThen, h]
def hexV (b : Value) (s : ByteArray) (j : Nat) (x : UInt8) : Nat → Value
  | 0 => b
  | 1 | 6 => .string s
  | 2 | 7 => .int .i64 (j : Int)
  | 3 | 8 => .int .u8 (x.toNat : Int)
  | 4 => .int .u8 ((x.toNat / 16 : Nat) : Int)
  | 5 => .int .u8 ((hexD (x.toNat / 16)).toNat : Int)
  | 9 => .int .u8 ((x.toNat % 16 : Nat) : Int)
  | _ => .int .u8 ((hexD (x.toNat % 16)).toNat : Int)
theorem exec_index {P : Program} {a : Act} {w : World} {o : Oper} {ty : TypeId} {x y : Operand} {p q v : Value} (ho : o.op = .index ty x y) (hx : a.eval x = p) (hy : a.eval y = q) (hr : (Instr.index ty p q).run P w = .ok v w) : (execOp a.eval o).run P w = .ok (.value v) w := by
  subst hx
  subst hy
  cases o
  simp only at ho
  subst ho
  show Sem.run P (Instr.index ty (a.eval x) (a.eval y) >>= fun r => pure (Next.value r)) w = _
  rw [Sem.run_bind, hr]
  rfl
theorem hexB_length (l : List UInt8) : (hexB l).length = 2 * l.length := by
  induction l with
  | nil => rfl
  | cons x l ih => unfold hexB at ih ⊢; rw [List.flatMap_cons, List.length_append, ih, List.length_cons, List.length_cons, List.length_cons, List.length_nil]; omega
theorem hexB_next (l : List UInt8) (x : UInt8) : hexB (l ++ [x]) = hexB l ++ [hexD (x.toNat / 16), hexD (x.toNat % 16)] := by unfold hexB; simp

set_option maxRecDepth 100000 in
set_option maxHeartbeats 2000000 in
theorem hex_any (s : ByteArray) (w : World) (hs : s.size ≤ 1000) (h0 : 0 < s.size) :
    Calls Tryz.prog 23 #[.string s] w fun e w' => e = .returned (.string ⟨(hexB s.data.toList).toArray⟩) ∧ Below w.heap.size w w' := by
  obtain ⟨i0, hi, hz0, hz1, hz2⟩ := info_parts byte_info
  go_enter Tryz.func23, Tryz.ntmps23
  go_wp2_with fail
  go_loopw [3, 4] (fun b i wr => ∃ j : Nat, j ≤ s.size ∧ i = .int .i64 j ∧ wr.ownsRow w.heap.size 5 1 b (2 * j) (Lib.byteCells (hexB (s.data.toList.take j))) ∧ Below w.heap.size w wr) (fun _ i _ => s.size - (intOf i).toNat)
  case atStart => exact ⟨0, Nat.zero_le _, rfl, by simp [hexB, Lib.byteCells]; exact World.ownsRow_nil _ _ _ _, Below.refl _ _⟩
  case round =>
    obtain ⟨j, hj, rfl, hown, hbr⟩ := hrel
    have HOWN := Lib.hid hown
    have HBR := Lib.hid hbr
    clear hown hbr
    by_cases hlt : j < s.size
    · obtain ⟨x, hx⟩ : ∃ x, x = s[j] := ⟨_, rfl⟩
      have hxj : s[j]? = some x := by rw [hx]; exact getElem?_pos s j hlt
      have HXJ := Lib.hid hxj
      have HT : Hid (s.data.toList.take (j + 1) = s.data.toList.take j ++ [x]) := Lib.hid (by
        rw [hx, List.take_succ_eq_append_getElem (by rw [← Lib.size_eq]; exact hlt)]
        rfl)
      have hx256 := x.toNat_lt
      clear hx hxj
      go_upto_region 5 with fail
      refine wp_region_append 11 11 3 26 0 (hexV u3 s j x) w.heap.size 63 5 i0 (.int .u8 0) u3 (2 * j) _ [.int .u8 ((hexD (x.toNat / 16)).toNat : Int), .int .u8 ((hexD (x.toNat % 16)).toNat : Int)]
        (by kernel_rfl) (by kernel_rfl) rfl (by kernel_rfl) (by kernel_rfl) rfl (by omega) (by omega) Tryz.underlying63 hi hz0 hz1 (by omega) rfl HOWN.out HBR.out.size (by simp) (by simp [Value.oneCell']) (by simp; omega)
        ?hops ?hbuild _ _ rfl rfl rfl rfl (by omega) rfl rfl rfl rfl rfl ?hK
      case hops =>
        intro i hi y w1 hf hg hw
        rcases (show i = 0 ∨ i = 1 ∨ i = 2 ∨ i = 3 ∨ i = 4 ∨ i = 5 ∨ i = 6 ∨ i = 7 ∨ i = 8 ∨ i = 9 ∨ i = 10 by omega) with rfl | rfl | rfl | rfl | rfl | rfl | rfl | rfl | rfl | rfl | rfl
        · have e0 : y.tmps[3]?.getD undef = u3 := by rw [hf.2.2 3 (by omega)]; rfl
          clear hf hg hw
          refine wpOp_value (v := hexV u3 s j x 0) (w' := w1) rfl rfl ?_ ⟨rfl, by_refl _ _⟩
          go_simp
          rfl
        · have e0 : y.tmps[0]?.getD undef = .string s := by rw [hf.2.2 0 (by omega)]; rfl
          clear hf hg hw
          refine wpOp_value (v := hexV u3 s j x 1) (w' := w1) rfl rfl ?_ ⟨rfl, by_refl _ _⟩
          go_simp
          rfl
        · have e0 : y.tmps[4]?.getD undef = .int .i64 (j : Int) := by rw [hf.2.2 4 (by omega)]; rfl
          clear hf hg hw
          refine wpOp_value (v := hexV u3 s j x 2) (w' := w1) rfl rfl ?_ ⟨rfl, by_refl _ _⟩
          go_simp
          rfl
        · have e1 : y.tmps[12]?.getD undef = .string s := hw 1 (of_decide_eq_true (by kernel_rfl)) (by omega)
          have e2 : y.tmps[13]?.getD undef = .int .i64 (j : Int) := hw 2 (of_decide_eq_true (by kernel_rfl)) (by omega)
          clear hf hg hw
          exact wpOp_value (v := hexV u3 s j x 3) (w' := w1) rfl rfl (exec_index rfl (by simpa [Act.eval] using e1) (by simpa [Act.eval] using e2) (index_text w1 s j x HXJ.out)) ⟨rfl, by_refl _ _⟩
        · have e1 : y.tmps[14]?.getD undef = .int .u8 (x.toNat : Int) := hw 3 (of_decide_eq_true (by kernel_rfl)) (by omega)
          clear hf hg hw
          refine wpOp_value (v := hexV u3 s j x 4) (w' := w1) rfl rfl ?_ ⟨rfl, by_refl _ _⟩
          go_simp
          show Value.int .u8 (((x.toNat : Int) / 16) % 256) = .int .u8 ((x.toNat / 16 : Nat) : Int)
          congr 1
          omega
        · have e1 : y.tmps[15]?.getD undef = .int .u8 ((x.toNat / 16 : Nat) : Int) := hw 4 (of_decide_eq_true (by kernel_rfl)) (by omega)
          clear hf hg hw
          exact wpOp_value (v := hexV u3 s j x 5) (w' := w1) rfl rfl (exec_index rfl rfl (by simpa [Act.eval] using e1) (index_hex w1 (x.toNat / 16) (by omega))) ⟨rfl, by_refl _ _⟩
        · have e0 : y.tmps[0]?.getD undef = .string s := by rw [hf.2.2 0 (by omega)]; rfl
          clear hf hg hw
          refine wpOp_value (v := hexV u3 s j x 6) (w' := w1) rfl rfl ?_ ⟨rfl, by_refl _ _⟩
          go_simp
          rfl
        · have e0 : y.tmps[4]?.getD undef = .int .i64 (j : Int) := by rw [hf.2.2 4 (by omega)]; rfl
          clear hf hg hw
          refine wpOp_value (v := hexV u3 s j x 7) (w' := w1) rfl rfl ?_ ⟨rfl, by_refl _ _⟩
          go_simp
          rfl
        · have e1 : y.tmps[17]?.getD undef = .string s := hw 6 (of_decide_eq_true (by kernel_rfl)) (by omega)
          have e2 : y.tmps[18]?.getD undef = .int .i64 (j : Int) := hw 7 (of_decide_eq_true (by kernel_rfl)) (by omega)
          clear hf hg hw
          exact wpOp_value (v := hexV u3 s j x 8) (w' := w1) rfl rfl (exec_index rfl (by simpa [Act.eval] using e1) (by simpa [Act.eval] using e2) (index_text w1 s j x HXJ.out)) ⟨rfl, by_refl _ _⟩
        · have e1 : y.tmps[19]?.getD undef = .int .u8 (x.toNat : Int) := hw 8 (of_decide_eq_true (by kernel_rfl)) (by omega)
          clear hf hg hw
          refine wpOp_value (v := hexV u3 s j x 9) (w' := w1) rfl rfl ?_ ⟨rfl, by_refl _ _⟩
          go_simp
          rfl
        · have e1 : y.tmps[20]?.getD undef = .int .u8 ((x.toNat % 16 : Nat) : Int) := hw 9 (of_decide_eq_true (by kernel_rfl)) (by omega)
          clear hf hg hw
          exact wpOp_value (v := hexV u3 s j x 10) (w' := w1) rfl rfl (exec_index rfl rfl (by simpa [Act.eval] using e1) (index_hex w1 (x.toNat % 16) (by omega))) ⟨rfl, by_refl _ _⟩
      case hbuild =>
        intro y w1 hw
        have e1 : y.tmps[16]?.getD undef = .int .u8 ((hexD (x.toNat / 16)).toNat : Int) := hw 5 (of_decide_eq_true (by kernel_rfl)) (by omega)
        have e2 : y.tmps[21]?.getD undef = .int .u8 ((hexD (x.toNat % 16)).toNat : Int) := hw 10 (of_decide_eq_true (by kernel_rfl)) (by omega)
        refine ⟨_, rfl, rfl, rfl, ?_⟩
        clear hw
        go_simp
      case hK =>
        intro y w2 g cap h1 h2 h3 h4 h5 h6 _
        have HO := Lib.hid h5
        have hb2 : Below w.heap.size w w2 := HBR.out.drew.grown h6 (by have := HBR.out.size; simpa using this) (fun k hk => (HOWN.out.lt k hk).1)
        have HB2 := Lib.hid hb2
        clear h5 h6 hb2
        obtain ⟨t, d⟩ := y
        obtain ⟨x0, x1, x2, x3, x4, x5, x6, x7, x8, x9, x10, x11, x12, x13, x14, x15, x16, x17, x18, x19, x20, x21, x22, x23, x24, x25, rfl⟩ := arr26 t h2
        obtain rfl : d = [] := h1
        obtain rfl : x0 = .string s := Option.some.inj (h3 0 (by omega) (by omega))
        obtain rfl : x1 = undef := Option.some.inj (h3 1 (by omega) (by omega))
        obtain rfl : x2 = .string ⟨#[]⟩ := Option.some.inj (h3 2 (by omega) (by omega))
        obtain rfl : x4 = .int .i64 (j : Int) := Option.some.inj (h3 4 (by omega) (by omega))
        obtain rfl : x24 = undef := Option.some.inj (h3 24 (by omega) (by omega))
        obtain rfl : x25 = undef := Option.some.inj (h3 25 (by omega) (by omega))
        have h4 : x3 = _ := h4
        subst h4
        clear h2 h3
        go_wp2_with fail
        go_roundw
        case rel => exact ⟨j + 1, by omega, by go_num, by rw [HT.out, hexB_next, show 2 * (j + 1) = 2 * j + 2 by omega]; have h := HO.out; simp only [Lib.byteCells, List.map_append, List.map_cons, List.map_nil] at h ⊢; exact h, HB2.out⟩
        case measure => simp [intOf] <;> omega
    · obtain rfl : j = s.size := by omega
      have ht : s.data.toList.take s.size = s.data.toList := List.take_of_length_le (by rw [← Lib.size_eq]; exact Nat.le_refl _)
      have HO := HOWN.out
      rw [ht] at HO
      obtain ⟨g, cap, rfl, hg0, hlt1⟩ := HO.form (by omega)
      have hcv := row_text wr _ g cap _ (2 * s.size) (by rw [hexB_length, ← Lib.size_eq]) HO
      clear HO ht
      go_wp2
      go_ret
      exact ⟨rfl, HBR.out⟩
end Go.Proofs.YtpliknofjgbfjaaGreatDoor
