/-
  BitsSizes, walked inside its bounds. No statement is proved here.
-/
import Derived.Test.YtdfickppfihiiaaDoorSizesRegion
import Derived.Test.YtdfickppfihiiaaDoorAlive
import Derived.Deep.DeepCutAuto
import Derived.Deep.RegionWith
namespace Go.Proofs.YtdfickppfihiiaaDoor
open Go.RowKit

def szAnd (a m : Int) : Int := IntKind.i64.wrap ((BitVec.ofInt 64 a &&& BitVec.ofInt 64 m).toNat : Int)
theorem szAnd_range (a m : Int) (hm : 0 ≤ m ∧ m ≤ 65535) : 0 ≤ szAnd a m ∧ szAnd a m ≤ m := by
  have h : (BitVec.ofInt 64 a &&& BitVec.ofInt 64 m).toNat ≤ m.toNat := by
    rw [BitVec.toNat_and]
    refine Nat.le_trans Nat.and_le_right ?_
    rw [BitVec.toNat_ofInt]
    omega
  unfold szAnd
  rw [IntWalk.i64_in _ (by omega)]
  omega
theorem ev (x : Act) (t : Nat) : x.eval (.tmp t) = x.tmps[t]?.getD undef := by simp [Act.eval]
theorem make_run (w : World) (n : Int) (Z : ByteArray) (h0 : 0 ≤ n) (h1 : n ≤ 70000) (hZ : Z.data.toList = List.replicate n.toNat 0) :
    (Instr.makeSlice 52 (.int .i64 n) (.int .i64 n)).run Tryd.prog w = .ok (.slice (some ⟨w.heap.size, 0, none⟩) n.toNat n.toNat) (w.alloc (.cells (Lib.byteCells Z.data.toList).toArray 5)) := by
  obtain ⟨i0, hi, hz0, hz1, hz2⟩ := info_parts byte_info
  have hr := run_makeSlice (P := Tryd.prog) w 52 5 i0 (.int .u8 0) Tryd.underlying52 hi hz0 .i64 .i64 n n h0 (Int.le_refl _) (by rw [hz1]; omega) (by rw [hz2]; omega) (by omega)
  have hc : madeCells (Value.int .u8 0).cells (n.toNat * i0.size) = (Lib.byteCells Z.data.toList).toArray := by
    rw [hz1, Nat.mul_one, hZ]
    refine Array.toList_inj.1 ?_
    rw [show (Value.int .u8 0).cells = #[Value.int .u8 0] from rfl, toList_madeCells_one]
    simp [Lib.byteCells]
  rw [hc] at hr
  exact hr
theorem conv_run (w : World) (g : Nat) (n : Int) (Z : ByteArray) (hZ : Z.data.toList = List.replicate n.toNat 0) (hB : Blk w g 5 (Lib.byteCells Z.data.toList).toArray) :
    (convert 52 9 (.slice (some ⟨g, 0, none⟩) n.toNat n.toNat)).run Tryd.prog w = .ok (.string Z) w := by
  have hl : Z.data.toList.length = n.toNat := by rw [hZ, List.length_replicate]
  have hr := run_convert_bytes_back (P := Tryd.prog) w 52 9 5 ⟨g, 0, none⟩ Z.data.toList.length Z.data.toList Tryd.underlying52 Tryd.underlying5 Tryd.underlying9
    (fun j hj => by
      rw [Go.WideShapes.add_plain, hB.cell (0 + j)]
      simp [Lib.byteCells]
      exact ⟨Z.data[j]'(by simpa using hj), Array.getElem?_eq_getElem (by simpa using hj), rfl⟩)
  rw [hl] at hr
  exact hr
theorem sz_lt {o : Nat} {A B : Int} {Z : ByteArray} {w0 : World} {L : Nat → Bool} {w : World} (h : szChain o A B Z w0 L w) : o < w.heap.size := by
  obtain ⟨_, _, _, h1, _⟩ := h
  exact h1.lt
theorem sz_end (o : Nat) (A B : Int) (Z : ByteArray) {w0 : World} {L : Nat → Bool} {w : World} (h : szChain o A B Z w0 L w) (hL : L 17 = true) : OutAt w o (szSt A B Z 5) := by
  obtain ⟨_, k, hk, h1, _, _, _, _, l17⟩ := h
  rw [hL] at l17
  have : 5 ≤ k := by simpa using l17.symm
  obtain rfl : k = 5 := by omega
  exact h1
theorem lay_len (s : Wr) (b : List UInt8) : (s.lay b).l.length ≤ s.l.length + b.length := by
  unfold Wr.lay
  split <;> simp
theorem fail_len (s : Wr) (c : Int) : (s.fail c).l.length ≤ s.l.length := by
  unfold Wr.fail
  split <;> simp
theorem nums_len (s : Wr) (k : Nat) (l : List Int) : (s.nums k l).l.length ≤ s.l.length + l.length * k := by
  unfold Wr.nums
  split
  · exact Nat.le_trans (lay_len _ _) (by rw [allBytes_length]; exact Nat.le_refl _)
  · exact Nat.le_trans (fail_len _ _) (by omega)
theorem texts_one_len (s : Wr) (Z : ByteArray) : (s.texts [Z]).l.length ≤ s.l.length + (2 + Z.data.toList.length) := by
  unfold Wr.texts
  split
  · exact Nat.le_trans (lay_len _ _) (by simp [textBytes, lowBytes_length])
  · exact Nat.le_trans (fail_len _ _) (by omega)
theorem szSt_len (A B : Int) (Z : ByteArray) (k : Nat) (hk : k ≤ 5) : (szSt A B Z k).l.length ≤ 22 + Z.data.toList.length := by
  have t0 : (szSt A B Z 0).l.length = 0 := rfl
  have t1 := nums_len (szSt A B Z 0) 1 [A, 1]
  have t2 := nums_len (szSt A B Z 1) 2 [B]
  have t3 := nums_len (szSt A B Z 2) 4 [1, 2]
  have t4 := nums_len (szSt A B Z 3) 8 [3]
  have t5 := texts_one_len (szSt A B Z 4) Z
  simp only [List.length_cons, List.length_nil] at t1 t2 t3 t4
  have e1 : (szSt A B Z 0).nums 1 [A, 1] = szSt A B Z 1 := rfl
  have e2 : (szSt A B Z 1).nums 2 [B] = szSt A B Z 2 := rfl
  have e3 : (szSt A B Z 2).nums 4 [1, 2] = szSt A B Z 3 := rfl
  have e4 : (szSt A B Z 3).nums 8 [3] = szSt A B Z 4 := rfl
  have e5 : (szSt A B Z 4).texts [Z] = szSt A B Z 5 := rfl
  rw [e1] at t1; rw [e2] at t2; rw [e3] at t3; rw [e4] at t4; rw [e5] at t5
  have : k = 0 ∨ k = 1 ∨ k = 2 ∨ k = 3 ∨ k = 4 ∨ k = 5 := by omega
  rcases this with rfl | rfl | rfl | rfl | rfl | rfl <;> omega
theorem szSt_four (A B : Int) (Z : ByteArray) (hA : 0 ≤ A ∧ A ≤ 255) (hB : 0 ≤ B ∧ B ≤ 65535) : (szSt A B Z 4).e = 0 ∧ (szSt A B Z 4).l.length = 20 := by
  have f1 : allFit 1 [A, 1] = true := by simp [allFit, fits]; omega
  have f2 : allFit 2 [B] = true := by simp [allFit, fits]; omega
  have f3 : allFit 4 [1, 2] = true := by decide
  have f4 : allFit 8 [3] = true := by decide
  simp only [szSt, szStep, Wr.nums, f1, f2, f3, f4, if_true, Wr.lay, List.length_append, allBytes_length, List.length_cons, List.length_nil]
  exact ⟨trivial, trivial⟩
theorem szSt_five (A B : Int) (Z : ByteArray) (hA : 0 ≤ A ∧ A ≤ 255) (hB : 0 ≤ B ∧ B ≤ 65535) :
    (Z.size ≤ 65535 → (szSt A B Z 5).e = 0 ∧ (szSt A B Z 5).l.length = 22 + Z.size) ∧ (65535 < Z.size → szSt A B Z 5 = ⟨[], 2⟩) := by
  obtain ⟨he, hl⟩ := szSt_four A B Z hA hB
  have e5 : szSt A B Z 5 = (szSt A B Z 4).texts [Z] := rfl
  rw [e5]
  unfold Wr.texts allShort
  refine ⟨fun h => ?_, fun h => ?_⟩
  · have hs : Z.data.toList.length = Z.size := rfl
    simp [h, Wr.lay, he, hl, textBytes, lowBytes_length]
    omega
  · have h' : ¬ Z.size ≤ 65535 := by omega
    simp [h', Wr.fail, he]
theorem szSt_ok (A B : Int) (Z : ByteArray) (hA : 0 ≤ A ∧ A ≤ 255) (hB : 0 ≤ B ∧ B ≤ 65535) : (szSt A B Z 5).ok := by
  obtain ⟨h1, h2⟩ := szSt_five A B Z hA hB
  intro hne
  rcases Nat.lt_or_ge 65535 Z.size with h | h
  · rw [h2 h]
  · exact absurd (h1 h).1 hne
set_option maxRecDepth 10000 in
theorem sz_list (l : List Value) (h : l.length = 77) : ∃ x0 x1 x2 x3 x4 x5 x6 x7 x8 x9 x10 x11 x12 x13 x14 x15 x16 x17 x18 x19 x20 x21 x22 x23 x24 x25 x26 x27 x28 x29 x30 x31 x32 x33 x34 x35 x36 x37 x38 x39 x40 x41 x42 x43 x44 x45 x46 x47 x48 x49 x50 x51 x52 x53 x54 x55 x56 x57 x58 x59 x60 x61 x62 x63 x64 x65 x66 x67 x68 x69 x70 x71 x72 x73 x74 x75 x76 : Value, l = x0 :: x1 :: x2 :: x3 :: x4 :: x5 :: x6 :: x7 :: x8 :: x9 :: x10 :: x11 :: x12 :: x13 :: x14 :: x15 :: x16 :: x17 :: x18 :: x19 :: x20 :: x21 :: x22 :: x23 :: x24 :: x25 :: x26 :: x27 :: x28 :: x29 :: x30 :: x31 :: x32 :: x33 :: x34 :: x35 :: x36 :: x37 :: x38 :: x39 :: x40 :: x41 :: x42 :: x43 :: x44 :: x45 :: x46 :: x47 :: x48 :: x49 :: x50 :: x51 :: x52 :: x53 :: x54 :: x55 :: x56 :: x57 :: x58 :: x59 :: x60 :: x61 :: x62 :: x63 :: x64 :: x65 :: x66 :: x67 :: x68 :: x69 :: x70 :: x71 :: x72 :: x73 :: x74 :: x75 :: x76 :: [] := by
  obtain ⟨x0, l, rfl⟩ := List.exists_cons_of_length_eq_add_one h
  replace h := Nat.succ.inj h
  obtain ⟨x1, l, rfl⟩ := List.exists_cons_of_length_eq_add_one h
  replace h := Nat.succ.inj h
  obtain ⟨x2, l, rfl⟩ := List.exists_cons_of_length_eq_add_one h
  replace h := Nat.succ.inj h
  obtain ⟨x3, l, rfl⟩ := List.exists_cons_of_length_eq_add_one h
  replace h := Nat.succ.inj h
  obtain ⟨x4, l, rfl⟩ := List.exists_cons_of_length_eq_add_one h
  replace h := Nat.succ.inj h
  obtain ⟨x5, l, rfl⟩ := List.exists_cons_of_length_eq_add_one h
  replace h := Nat.succ.inj h
  obtain ⟨x6, l, rfl⟩ := List.exists_cons_of_length_eq_add_one h
  replace h := Nat.succ.inj h
  obtain ⟨x7, l, rfl⟩ := List.exists_cons_of_length_eq_add_one h
  replace h := Nat.succ.inj h
  obtain ⟨x8, l, rfl⟩ := List.exists_cons_of_length_eq_add_one h
  replace h := Nat.succ.inj h
  obtain ⟨x9, l, rfl⟩ := List.exists_cons_of_length_eq_add_one h
  replace h := Nat.succ.inj h
  obtain ⟨x10, l, rfl⟩ := List.exists_cons_of_length_eq_add_one h
  replace h := Nat.succ.inj h
  obtain ⟨x11, l, rfl⟩ := List.exists_cons_of_length_eq_add_one h
  replace h := Nat.succ.inj h
  obtain ⟨x12, l, rfl⟩ := List.exists_cons_of_length_eq_add_one h
  replace h := Nat.succ.inj h
  obtain ⟨x13, l, rfl⟩ := List.exists_cons_of_length_eq_add_one h
  replace h := Nat.succ.inj h
  obtain ⟨x14, l, rfl⟩ := List.exists_cons_of_length_eq_add_one h
  replace h := Nat.succ.inj h
  obtain ⟨x15, l, rfl⟩ := List.exists_cons_of_length_eq_add_one h
  replace h := Nat.succ.inj h
  obtain ⟨x16, l, rfl⟩ := List.exists_cons_of_length_eq_add_one h
  replace h := Nat.succ.inj h
  obtain ⟨x17, l, rfl⟩ := List.exists_cons_of_length_eq_add_one h
  replace h := Nat.succ.inj h
  obtain ⟨x18, l, rfl⟩ := List.exists_cons_of_length_eq_add_one h
  replace h := Nat.succ.inj h
  obtain ⟨x19, l, rfl⟩ := List.exists_cons_of_length_eq_add_one h
  replace h := Nat.succ.inj h
  obtain ⟨x20, l, rfl⟩ := List.exists_cons_of_length_eq_add_one h
  replace h := Nat.succ.inj h
  obtain ⟨x21, l, rfl⟩ := List.exists_cons_of_length_eq_add_one h
  replace h := Nat.succ.inj h
  obtain ⟨x22, l, rfl⟩ := List.exists_cons_of_length_eq_add_one h
  replace h := Nat.succ.inj h
  obtain ⟨x23, l, rfl⟩ := List.exists_cons_of_length_eq_add_one h
  replace h := Nat.succ.inj h
  obtain ⟨x24, l, rfl⟩ := List.exists_cons_of_length_eq_add_one h
  replace h := Nat.succ.inj h
  obtain ⟨x25, l, rfl⟩ := List.exists_cons_of_length_eq_add_one h
  replace h := Nat.succ.inj h
  obtain ⟨x26, l, rfl⟩ := List.exists_cons_of_length_eq_add_one h
  replace h := Nat.succ.inj h
  obtain ⟨x27, l, rfl⟩ := List.exists_cons_of_length_eq_add_one h
  replace h := Nat.succ.inj h
  obtain ⟨x28, l, rfl⟩ := List.exists_cons_of_length_eq_add_one h
  replace h := Nat.succ.inj h
  obtain ⟨x29, l, rfl⟩ := List.exists_cons_of_length_eq_add_one h
  replace h := Nat.succ.inj h
  obtain ⟨x30, l, rfl⟩ := List.exists_cons_of_length_eq_add_one h
  replace h := Nat.succ.inj h
  obtain ⟨x31, l, rfl⟩ := List.exists_cons_of_length_eq_add_one h
  replace h := Nat.succ.inj h
  obtain ⟨x32, l, rfl⟩ := List.exists_cons_of_length_eq_add_one h
  replace h := Nat.succ.inj h
  obtain ⟨x33, l, rfl⟩ := List.exists_cons_of_length_eq_add_one h
  replace h := Nat.succ.inj h
  obtain ⟨x34, l, rfl⟩ := List.exists_cons_of_length_eq_add_one h
  replace h := Nat.succ.inj h
  obtain ⟨x35, l, rfl⟩ := List.exists_cons_of_length_eq_add_one h
  replace h := Nat.succ.inj h
  obtain ⟨x36, l, rfl⟩ := List.exists_cons_of_length_eq_add_one h
  replace h := Nat.succ.inj h
  obtain ⟨x37, l, rfl⟩ := List.exists_cons_of_length_eq_add_one h
  replace h := Nat.succ.inj h
  obtain ⟨x38, l, rfl⟩ := List.exists_cons_of_length_eq_add_one h
  replace h := Nat.succ.inj h
  obtain ⟨x39, l, rfl⟩ := List.exists_cons_of_length_eq_add_one h
  replace h := Nat.succ.inj h
  obtain ⟨x40, l, rfl⟩ := List.exists_cons_of_length_eq_add_one h
  replace h := Nat.succ.inj h
  obtain ⟨x41, l, rfl⟩ := List.exists_cons_of_length_eq_add_one h
  replace h := Nat.succ.inj h
  obtain ⟨x42, l, rfl⟩ := List.exists_cons_of_length_eq_add_one h
  replace h := Nat.succ.inj h
  obtain ⟨x43, l, rfl⟩ := List.exists_cons_of_length_eq_add_one h
  replace h := Nat.succ.inj h
  obtain ⟨x44, l, rfl⟩ := List.exists_cons_of_length_eq_add_one h
  replace h := Nat.succ.inj h
  obtain ⟨x45, l, rfl⟩ := List.exists_cons_of_length_eq_add_one h
  replace h := Nat.succ.inj h
  obtain ⟨x46, l, rfl⟩ := List.exists_cons_of_length_eq_add_one h
  replace h := Nat.succ.inj h
  obtain ⟨x47, l, rfl⟩ := List.exists_cons_of_length_eq_add_one h
  replace h := Nat.succ.inj h
  obtain ⟨x48, l, rfl⟩ := List.exists_cons_of_length_eq_add_one h
  replace h := Nat.succ.inj h
  obtain ⟨x49, l, rfl⟩ := List.exists_cons_of_length_eq_add_one h
  replace h := Nat.succ.inj h
  obtain ⟨x50, l, rfl⟩ := List.exists_cons_of_length_eq_add_one h
  replace h := Nat.succ.inj h
  obtain ⟨x51, l, rfl⟩ := List.exists_cons_of_length_eq_add_one h
  replace h := Nat.succ.inj h
  obtain ⟨x52, l, rfl⟩ := List.exists_cons_of_length_eq_add_one h
  replace h := Nat.succ.inj h
  obtain ⟨x53, l, rfl⟩ := List.exists_cons_of_length_eq_add_one h
  replace h := Nat.succ.inj h
  obtain ⟨x54, l, rfl⟩ := List.exists_cons_of_length_eq_add_one h
  replace h := Nat.succ.inj h
  obtain ⟨x55, l, rfl⟩ := List.exists_cons_of_length_eq_add_one h
  replace h := Nat.succ.inj h
  obtain ⟨x56, l, rfl⟩ := List.exists_cons_of_length_eq_add_one h
  replace h := Nat.succ.inj h
  obtain ⟨x57, l, rfl⟩ := List.exists_cons_of_length_eq_add_one h
  replace h := Nat.succ.inj h
  obtain ⟨x58, l, rfl⟩ := List.exists_cons_of_length_eq_add_one h
  replace h := Nat.succ.inj h
  obtain ⟨x59, l, rfl⟩ := List.exists_cons_of_length_eq_add_one h
  replace h := Nat.succ.inj h
  obtain ⟨x60, l, rfl⟩ := List.exists_cons_of_length_eq_add_one h
  replace h := Nat.succ.inj h
  obtain ⟨x61, l, rfl⟩ := List.exists_cons_of_length_eq_add_one h
  replace h := Nat.succ.inj h
  obtain ⟨x62, l, rfl⟩ := List.exists_cons_of_length_eq_add_one h
  replace h := Nat.succ.inj h
  obtain ⟨x63, l, rfl⟩ := List.exists_cons_of_length_eq_add_one h
  replace h := Nat.succ.inj h
  obtain ⟨x64, l, rfl⟩ := List.exists_cons_of_length_eq_add_one h
  replace h := Nat.succ.inj h
  obtain ⟨x65, l, rfl⟩ := List.exists_cons_of_length_eq_add_one h
  replace h := Nat.succ.inj h
  obtain ⟨x66, l, rfl⟩ := List.exists_cons_of_length_eq_add_one h
  replace h := Nat.succ.inj h
  obtain ⟨x67, l, rfl⟩ := List.exists_cons_of_length_eq_add_one h
  replace h := Nat.succ.inj h
  obtain ⟨x68, l, rfl⟩ := List.exists_cons_of_length_eq_add_one h
  replace h := Nat.succ.inj h
  obtain ⟨x69, l, rfl⟩ := List.exists_cons_of_length_eq_add_one h
  replace h := Nat.succ.inj h
  obtain ⟨x70, l, rfl⟩ := List.exists_cons_of_length_eq_add_one h
  replace h := Nat.succ.inj h
  obtain ⟨x71, l, rfl⟩ := List.exists_cons_of_length_eq_add_one h
  replace h := Nat.succ.inj h
  obtain ⟨x72, l, rfl⟩ := List.exists_cons_of_length_eq_add_one h
  replace h := Nat.succ.inj h
  obtain ⟨x73, l, rfl⟩ := List.exists_cons_of_length_eq_add_one h
  replace h := Nat.succ.inj h
  obtain ⟨x74, l, rfl⟩ := List.exists_cons_of_length_eq_add_one h
  replace h := Nat.succ.inj h
  obtain ⟨x75, l, rfl⟩ := List.exists_cons_of_length_eq_add_one h
  replace h := Nat.succ.inj h
  obtain ⟨x76, l, rfl⟩ := List.exists_cons_of_length_eq_add_one h
  replace h := Nat.succ.inj h
  obtain rfl := List.eq_nil_of_length_eq_zero h
  exact ⟨x0, x1, x2, x3, x4, x5, x6, x7, x8, x9, x10, x11, x12, x13, x14, x15, x16, x17, x18, x19, x20, x21, x22, x23, x24, x25, x26, x27, x28, x29, x30, x31, x32, x33, x34, x35, x36, x37, x38, x39, x40, x41, x42, x43, x44, x45, x46, x47, x48, x49, x50, x51, x52, x53, x54, x55, x56, x57, x58, x59, x60, x61, x62, x63, x64, x65, x66, x67, x68, x69, x70, x71, x72, x73, x74, x75, x76, rfl⟩
set_option maxRecDepth 10000 in
theorem szFrame_lit {o : Nat} {a n : Int} {x : Act} (h : szFrame o a n x) : ∃ u6 u7 u10 u11 u12 u13 u14 u15 u16 u17 u18 u19 u20 u21 u22 u23 u24 u25 u26 u27 u28 u29 u30 u31 u32 u33 u34 u35 u36 u37 u38 u39 u40 u41 u42 u43 u44 u45 u46 u47 u48 u49 u50 u51 u52 u53 u54 u55 u56 u57 u58 u59 u60 u61 u62 u63 u64 u65 u66 u67 u68 u69 u70 u71 u72 u73 u74 u75 u76 : Value, x = ⟨List.toArray ((.int .i64 a : Value) :: (.int .i64 n : Value) :: (undef : Value) :: (undef : Value) :: (.bool false : Value) :: (.pointer (some ⟨o, 0, none⟩) : Value) :: (u6 : Value) :: (u7 : Value) :: (undef : Value) :: (undef : Value) :: u10 :: u11 :: u12 :: u13 :: u14 :: u15 :: u16 :: u17 :: u18 :: u19 :: u20 :: u21 :: u22 :: u23 :: u24 :: u25 :: u26 :: u27 :: u28 :: u29 :: u30 :: u31 :: u32 :: u33 :: u34 :: u35 :: u36 :: u37 :: u38 :: u39 :: u40 :: u41 :: u42 :: u43 :: u44 :: u45 :: u46 :: u47 :: u48 :: u49 :: u50 :: u51 :: u52 :: u53 :: u54 :: u55 :: u56 :: u57 :: u58 :: u59 :: u60 :: u61 :: u62 :: u63 :: u64 :: u65 :: u66 :: u67 :: u68 :: u69 :: u70 :: u71 :: u72 :: u73 :: u74 :: u75 :: u76 :: []), []⟩ := by
  obtain ⟨⟨l⟩, d⟩ := x
  obtain ⟨h0, h1, q0, q1, q2, q3, q4, q5, q8, q9⟩ := h
  obtain ⟨x0, x1, x2, x3, x4, x5, x6, x7, x8, x9, x10, x11, x12, x13, x14, x15, x16, x17, x18, x19, x20, x21, x22, x23, x24, x25, x26, x27, x28, x29, x30, x31, x32, x33, x34, x35, x36, x37, x38, x39, x40, x41, x42, x43, x44, x45, x46, x47, x48, x49, x50, x51, x52, x53, x54, x55, x56, x57, x58, x59, x60, x61, x62, x63, x64, x65, x66, x67, x68, x69, x70, x71, x72, x73, x74, x75, x76, rfl⟩ := sz_list l h1
  obtain rfl : d = [] := h0
  have r0 := Option.some.inj q0
  have r1 := Option.some.inj q1
  have r2 := Option.some.inj q2
  have r3 := Option.some.inj q3
  have r4 := Option.some.inj q4
  have r5 := Option.some.inj q5
  have r8 := Option.some.inj q8
  have r9 := Option.some.inj q9
  simp only at r0 r1 r2 r3 r4 r5 r8 r9
  subst r0 r1 r2 r3 r4 r5 r8 r9
  exact ⟨x6, x7, x10, x11, x12, x13, x14, x15, x16, x17, x18, x19, x20, x21, x22, x23, x24, x25, x26, x27, x28, x29, x30, x31, x32, x33, x34, x35, x36, x37, x38, x39, x40, x41, x42, x43, x44, x45, x46, x47, x48, x49, x50, x51, x52, x53, x54, x55, x56, x57, x58, x59, x60, x61, x62, x63, x64, x65, x66, x67, x68, x69, x70, x71, x72, x73, x74, x75, x76, rfl⟩

set_option maxRecDepth 100000 in
set_option maxHeartbeats 4000000 in
theorem sizes_in (a n : Int) (w : World) (h0 : 0 ≤ n) (h1 : n ≤ 70000) :
    Calls Tryd.prog 6 #[.int .i64 a, .int .i64 n] w fun e w' => e = .returned (.bool true) ∧ Below w.heap.size w w' := by
  obtain ⟨Z, HZ⟩ : ∃ Z : ByteArray, Hid (Z.data.toList = List.replicate n.toNat 0) := ⟨⟨(List.replicate n.toNat 0).toArray⟩, Lib.hid rfl⟩
  have HZN := Lib.hid (show (Lib.byteCells Z.data.toList).toArray.size = n.toNat by rw [HZ.out]; simp [Lib.byteCells])
  have HZS := Lib.hid (show Z.size = n.toNat by show Z.data.toList.length = _; rw [HZ.out, List.length_replicate])
  have HA := Lib.hid (szAnd_range a 255 (by omega))
  have HBB := Lib.hid (szAnd_range a 65535 (by omega))
  have HS : Hid (∀ k, k ≤ 5 → (szSt (szAnd a 255) (szAnd a 65535) Z k).l.length ≤ 140737488351232) := Lib.hid (fun k hk => Nat.le_trans (szSt_len _ _ Z k hk) (by rw [HZ.out, List.length_replicate]; omega))
  have HOK := Lib.hid (szSt_ok (szAnd a 255) (szAnd a 65535) Z HA.out HBB.out)
  have H5 := Lib.hid (szSt_five (szAnd a 255) (szAnd a 65535) Z HA.out HBB.out)
  have HR4 : Hid (InRange [szAnd a 255, 1]) := Lib.hid (by intro y hy; have := HA.out; simp only [List.mem_cons, List.mem_nil_iff, or_false] at hy; rcases hy with rfl | rfl <;> omega)
  have HR8 : Hid (InRange [szAnd a 65535]) := Lib.hid (by intro y hy; have := HBB.out; simp only [List.mem_cons, List.mem_nil_iff, or_false] at hy; subst hy; omega)
  have HR10 : Hid (InRange [1, 2]) := Lib.hid (inRange_of (by decide))
  have HR12 : Hid (InRange [3]) := Lib.hid (inRange_of (by decide))
  have HR1 : Hid (InRange [1]) := Lib.hid (inRange_of (by decide))
  have HT : Hid ((textsBytes [Z]).length ≤ 140737488351232) := Lib.hid (by
    have : (textsBytes [Z]).length = 2 + Z.data.toList.length := by simp [textsBytes, textBytes, lowBytes_length]
    rw [this, HZ.out, List.length_replicate]; omega)
  go_enter Tryd.func6, Tryd.ntmps6
  go_wp2_with fail
  refine (alive_any _).mono ?_
  rintro e w1 ⟨rfl, hb1⟩
  go_upto_region 4 with fail
  go_cut [6, 7] (fun s e wx => s = .string ⟨(szSt (szAnd a 255) (szAnd a 65535) Z 5).l.toArray⟩ ∧ e = .int .i64 (szSt (szAnd a 255) (szAnd a 65535) Z 5).e ∧ OutAt wx w1.heap.size (szSt (szAnd a 255) (szAnd a 65535) Z 5) ∧ Below w.heap.size w wx)
  case first =>
    have hoo : w.heap.size ≤ w1.heap.size := hb1.size
    have hout := OutAt.new w1
    have hbel := hb1.alloc hb1.size (.cells #[.pointer none, .int .i64 0, .int .i64 0] 44)
    refine wp_region_kept (szInv w1.heap.size a n (szAnd a 255) (szAnd a 65535) Z w) (by kernel_rfl) (by kernel_rfl) ?h0 ?hs ?hd
    case h0 => exact ⟨⟨rfl, rfl, rfl, rfl, rfl, rfl, rfl, rfl, rfl, rfl⟩, (fun _ _ h => by cases h), hbel.drew, 0, Nat.zero_le _, hout.below (Below.refl _ _).drew, rfl, rfl, rfl, rfl, rfl⟩
    case hd =>
      intro L x wi ⟨hF, hfact, hch⟩ hall
      obtain ⟨u6, u7, u10, u11, u12, u13, u14, u15, u16, u17, u18, u19, u20, u21, u22, u23, u24, u25, u26, u27, u28, u29, u30, u31, u32, u33, u34, u35, u36, u37, u38, u39, u40, u41, u42, u43, u44, u45, u46, u47, u48, u49, u50, u51, u52, u53, u54, u55, u56, u57, u58, u59, u60, u61, u62, u63, u64, u65, u66, u67, u68, u69, u70, u71, u72, u73, u74, u75, u76, rfl⟩ := szFrame_lit hF
      have e6 : u6 = .string ⟨(szSt (szAnd a 255) (szAnd a 65535) Z 5).l.toArray⟩ := hfact 22 (by omega) (hall 22 (show 22 < 24 by omega))
      have e7 : u7 = .int .i64 (szSt (szAnd a 255) (szAnd a 65535) Z 5).e := hfact 23 (by omega) (hall 23 (show 23 < 24 by omega))
      have hO := sz_end w1.heap.size (szAnd a 255) (szAnd a 65535) Z hch (hall 17 (show 17 < 24 by omega))
      have hB := hch.1
      clear hF hfact hch hall
      rename_i hJ hMet
      refine hMet _ _ (Met.intro (hJ _ _ ?_))
      (repeat apply Exists.intro)
      exact ⟨⟨e6, e7, hO, hB⟩, rfl⟩
    case hs =>
      clear hout hbel
      intro L x wi i hI hi hL hw
      have hi : i < 24 := hi
      obtain ⟨hF, hfact, hch⟩ := id hI
      rcases (show i = 0 ∨ i = 1 ∨ i = 2 ∨ i = 3 ∨ i = 4 ∨ i = 5 ∨ i = 6 ∨ i = 7 ∨ i = 8 ∨ i = 9 ∨ i = 10 ∨ i = 11 ∨ i = 12 ∨ i = 13 ∨ i = 14 ∨ i = 15 ∨ i = 16 ∨ i = 17 ∨ i = 18 ∨ i = 19 ∨ i = 20 ∨ i = 21 ∨ i = 22 ∨ i = 23 by omega) with rfl | rfl | rfl | rfl | rfl | rfl | rfl | rfl | rfl | rfl | rfl | rfl | rfl | rfl | rfl | rfl | rfl | rfl | rfl | rfl | rfl | rfl | rfl | rfl
      · have e5 : x.tmps[5]?.getD undef = (.pointer (some ⟨w1.heap.size, 0, none⟩)) := by rw [hF.2.2.2.2.2.2.2.1]; rfl
        have HK := Lib.hid (sz_next w1.heap.size a n (szAnd a 255) (szAnd a 65535) Z 0 (.pointer (some ⟨w1.heap.size, 0, none⟩)) hI (by omega) (by_refl _ _) rfl (sz_stays w1.heap.size (szAnd a 255) (szAnd a 65535) Z 0 (by omega) (Below.refl _ _) hch))
        clear hI hF hfact hch hw hL hi
        refine wpOp_value (v := (.pointer (some ⟨w1.heap.size, 0, none⟩))) (w' := wi) rfl rfl ?_ HK.out
        go_simp
      · have e0 : x.tmps[0]?.getD undef = (.int .i64 a) := by rw [hF.2.2.1]; rfl
        have HK := Lib.hid (sz_next w1.heap.size a n (szAnd a 255) (szAnd a 65535) Z 1 (.int .i64 a) hI (by omega) (by_refl _ _) rfl (sz_stays w1.heap.size (szAnd a 255) (szAnd a 65535) Z 1 (by omega) (Below.refl _ _) hch))
        clear hI hF hfact hch hw hL hi
        refine wpOp_value (v := (.int .i64 a)) (w' := wi) rfl rfl ?_ HK.out
        go_simp
      · have e1 : x.tmps[25]?.getD undef = (.int .i64 a) := (ev x 25).symm.trans (hfact 1 (by omega) (hw 1 (of_decide_eq_true (by kernel_rfl))))
        have HK := Lib.hid (sz_next w1.heap.size a n (szAnd a 255) (szAnd a 65535) Z 2 (.int .i64 (szAnd a 255)) hI (by omega) (by_refl _ _) rfl (sz_stays w1.heap.size (szAnd a 255) (szAnd a 65535) Z 2 (by omega) (Below.refl _ _) hch))
        clear hI hF hfact hch hw hL hi
        refine wpOp_value (v := (.int .i64 (szAnd a 255))) (w' := wi) rfl rfl ?_ HK.out
        go_simp
        rfl
      · have e1 : x.tmps[26]?.getD undef = (.int .i64 (szAnd a 255)) := (ev x 26).symm.trans (hfact 2 (by omega) (hw 2 (of_decide_eq_true (by kernel_rfl))))
        have hlt := sz_lt hch
        have HK := Lib.hid (sz_next w1.heap.size a n (szAnd a 255) (szAnd a 65535) Z 3 (.slice (some ⟨wi.heap.size, 0, none⟩) 2 2) hI (by omega) (by_alloc (by_refl _ _) _) (Has.new wi w1.heap.size 3 (([szAnd a 255, 1]).map (Value.int .i64)).toArray hlt) (sz_stays w1.heap.size (szAnd a 255) (szAnd a 65535) Z 3 (by omega) ((Below.refl _ _).alloc (Nat.le_refl _) _) hch))
        clear hI hF hfact hch hw hL hi
        refine wpOp_value (v := (.slice (some ⟨wi.heap.size, 0, none⟩) 2 2)) (w' := (wi.alloc (.cells (([szAnd a 255, 1]).map (Value.int .i64)).toArray 3))) rfl rfl ?_ HK.out
        go_simp
      · have hcall := fun w' => sz_call (w' := w') w1.heap.size (szAnd a 255) (szAnd a 65535) Z 4 0 (.inl ⟨rfl, rfl⟩) hL hch hoo
        have ep : x.tmps[24]?.getD undef = (.pointer (some ⟨w1.heap.size, 0, none⟩)) := (ev x 24).symm.trans (hfact 0 (by omega) (hw 0 (of_decide_eq_true (by kernel_rfl))))
        obtain ⟨g, eg, hx⟩ := Has.ints (xs := [szAnd a 255, 1]) (hfact 3 (by omega) (hw 3 (of_decide_eq_true (by kernel_rfl))))
        have es : x.tmps[27]?.getD undef = .slice (some ⟨g, 0, none⟩) 2 2 := (ev x 27).symm.trans eg
        have HC := Lib.hid ((out_byte w1.heap.size (szSt (szAnd a 255) (szAnd a 65535) Z 0) (some ⟨g, 0, none⟩) 2 2 [szAnd a 255, 1] wi rfl hx (by simp) (by exact HR4.out) (hcall wi).1 (HS.out 0 (by omega))).mono (fun e w'' ⟨he, h1, hg1⟩ => show ∃ v, e = Ending.returned v ∧ szInv w1.heap.size a n (szAnd a 255) (szAnd a 65535) Z w (fun j => if 4 = j then true else L j) (x.put (some (szDst 4)) v) w'' from ⟨_, he, sz_next w1.heap.size a n (szAnd a 255) (szAnd a 65535) Z 4 _ hI (by omega) hg1 rfl ((hcall w'').2 h1 hg1)⟩))
        clear hI hF hfact hch hw hL hi hcall hx eg
        refine wpOp_call rfl rfl ?_ HC.out
        go_simp
      · have e0 : x.tmps[0]?.getD undef = (.int .i64 a) := by rw [hF.2.2.1]; rfl
        have HK := Lib.hid (sz_next w1.heap.size a n (szAnd a 255) (szAnd a 65535) Z 5 (.int .i64 a) hI (by omega) (by_refl _ _) rfl (sz_stays w1.heap.size (szAnd a 255) (szAnd a 65535) Z 5 (by omega) (Below.refl _ _) hch))
        clear hI hF hfact hch hw hL hi
        refine wpOp_value (v := (.int .i64 a)) (w' := wi) rfl rfl ?_ HK.out
        go_simp
      · have e1 : x.tmps[29]?.getD undef = (.int .i64 a) := (ev x 29).symm.trans (hfact 5 (by omega) (hw 5 (of_decide_eq_true (by kernel_rfl))))
        have HK := Lib.hid (sz_next w1.heap.size a n (szAnd a 255) (szAnd a 65535) Z 6 (.int .i64 (szAnd a 65535)) hI (by omega) (by_refl _ _) rfl (sz_stays w1.heap.size (szAnd a 255) (szAnd a 65535) Z 6 (by omega) (Below.refl _ _) hch))
        clear hI hF hfact hch hw hL hi
        refine wpOp_value (v := (.int .i64 (szAnd a 65535))) (w' := wi) rfl rfl ?_ HK.out
        go_simp
        rfl
      · have e1 : x.tmps[30]?.getD undef = (.int .i64 (szAnd a 65535)) := (ev x 30).symm.trans (hfact 6 (by omega) (hw 6 (of_decide_eq_true (by kernel_rfl))))
        have hlt := sz_lt hch
        have HK := Lib.hid (sz_next w1.heap.size a n (szAnd a 255) (szAnd a 65535) Z 7 (.slice (some ⟨wi.heap.size, 0, none⟩) 1 1) hI (by omega) (by_alloc (by_refl _ _) _) (Has.new wi w1.heap.size 3 (([szAnd a 65535]).map (Value.int .i64)).toArray hlt) (sz_stays w1.heap.size (szAnd a 255) (szAnd a 65535) Z 7 (by omega) ((Below.refl _ _).alloc (Nat.le_refl _) _) hch))
        clear hI hF hfact hch hw hL hi
        refine wpOp_value (v := (.slice (some ⟨wi.heap.size, 0, none⟩) 1 1)) (w' := (wi.alloc (.cells (([szAnd a 65535]).map (Value.int .i64)).toArray 3))) rfl rfl ?_ HK.out
        go_simp
      · have hcall := fun w' => sz_call (w' := w') w1.heap.size (szAnd a 255) (szAnd a 65535) Z 8 1 (.inr (.inl ⟨rfl, rfl, (hw 4 (of_decide_eq_true (by kernel_rfl)))⟩)) hL hch hoo
        have ep : x.tmps[28]?.getD undef = (.pointer (some ⟨w1.heap.size, 0, none⟩)) := (ev x 28).symm.trans (hfact 4 (by omega) (hw 4 (of_decide_eq_true (by kernel_rfl))))
        obtain ⟨g, eg, hx⟩ := Has.ints (xs := [szAnd a 65535]) (hfact 7 (by omega) (hw 7 (of_decide_eq_true (by kernel_rfl))))
        have es : x.tmps[31]?.getD undef = .slice (some ⟨g, 0, none⟩) 1 1 := (ev x 31).symm.trans eg
        have HC := Lib.hid ((out_half w1.heap.size (szSt (szAnd a 255) (szAnd a 65535) Z 1) (some ⟨g, 0, none⟩) 1 1 [szAnd a 65535] wi rfl hx (by simp) (by exact HR8.out) (hcall wi).1 (HS.out 1 (by omega))).mono (fun e w'' ⟨he, h1, hg1⟩ => show ∃ v, e = Ending.returned v ∧ szInv w1.heap.size a n (szAnd a 255) (szAnd a 65535) Z w (fun j => if 8 = j then true else L j) (x.put (some (szDst 8)) v) w'' from ⟨_, he, sz_next w1.heap.size a n (szAnd a 255) (szAnd a 65535) Z 8 _ hI (by omega) hg1 rfl ((hcall w'').2 h1 hg1)⟩))
        clear hI hF hfact hch hw hL hi hcall hx eg
        refine wpOp_call rfl rfl ?_ HC.out
        go_simp
      · have hlt := sz_lt hch
        have HK := Lib.hid (sz_next w1.heap.size a n (szAnd a 255) (szAnd a 65535) Z 9 (.slice (some ⟨wi.heap.size, 0, none⟩) 2 2) hI (by omega) (by_alloc (by_refl _ _) _) (Has.new wi w1.heap.size 3 (([1, 2]).map (Value.int .i64)).toArray hlt) (sz_stays w1.heap.size (szAnd a 255) (szAnd a 65535) Z 9 (by omega) ((Below.refl _ _).alloc (Nat.le_refl _) _) hch))
        clear hI hF hfact hch hw hL hi
        refine wpOp_value (v := (.slice (some ⟨wi.heap.size, 0, none⟩) 2 2)) (w' := (wi.alloc (.cells (([1, 2]).map (Value.int .i64)).toArray 3))) rfl rfl ?_ HK.out
        go_simp
      · have hcall := fun w' => sz_call (w' := w') w1.heap.size (szAnd a 255) (szAnd a 65535) Z 10 2 (.inr (.inr (.inl ⟨rfl, rfl, (hw 8 (of_decide_eq_true (by kernel_rfl)))⟩))) hL hch hoo
        have ep : x.tmps[32]?.getD undef = (.pointer (some ⟨w1.heap.size, 0, none⟩)) := (ev x 32).symm.trans (hfact 8 (by omega) (hw 8 (of_decide_eq_true (by kernel_rfl))))
        obtain ⟨g, eg, hx⟩ := Has.ints (xs := [1, 2]) (hfact 9 (by omega) (hw 9 (of_decide_eq_true (by kernel_rfl))))
        have es : x.tmps[33]?.getD undef = .slice (some ⟨g, 0, none⟩) 2 2 := (ev x 33).symm.trans eg
        have HC := Lib.hid ((out_word w1.heap.size (szSt (szAnd a 255) (szAnd a 65535) Z 2) (some ⟨g, 0, none⟩) 2 2 [1, 2] wi rfl hx (by simp) (by exact HR10.out) (hcall wi).1 (HS.out 2 (by omega))).mono (fun e w'' ⟨he, h1, hg1⟩ => show ∃ v, e = Ending.returned v ∧ szInv w1.heap.size a n (szAnd a 255) (szAnd a 65535) Z w (fun j => if 10 = j then true else L j) (x.put (some (szDst 10)) v) w'' from ⟨_, he, sz_next w1.heap.size a n (szAnd a 255) (szAnd a 65535) Z 10 _ hI (by omega) hg1 rfl ((hcall w'').2 h1 hg1)⟩))
        clear hI hF hfact hch hw hL hi hcall hx eg
        refine wpOp_call rfl rfl ?_ HC.out
        go_simp
      · have hlt := sz_lt hch
        have HK := Lib.hid (sz_next w1.heap.size a n (szAnd a 255) (szAnd a 65535) Z 11 (.slice (some ⟨wi.heap.size, 0, none⟩) 1 1) hI (by omega) (by_alloc (by_refl _ _) _) (Has.new wi w1.heap.size 3 (([3]).map (Value.int .i64)).toArray hlt) (sz_stays w1.heap.size (szAnd a 255) (szAnd a 65535) Z 11 (by omega) ((Below.refl _ _).alloc (Nat.le_refl _) _) hch))
        clear hI hF hfact hch hw hL hi
        refine wpOp_value (v := (.slice (some ⟨wi.heap.size, 0, none⟩) 1 1)) (w' := (wi.alloc (.cells (([3]).map (Value.int .i64)).toArray 3))) rfl rfl ?_ HK.out
        go_simp
      · have hcall := fun w' => sz_call (w' := w') w1.heap.size (szAnd a 255) (szAnd a 65535) Z 12 3 (.inr (.inr (.inr (.inl ⟨rfl, rfl, (hw 10 (of_decide_eq_true (by kernel_rfl)))⟩)))) hL hch hoo
        have ep : x.tmps[34]?.getD undef = (.pointer (some ⟨w1.heap.size, 0, none⟩)) := (ev x 34).symm.trans (hfact 10 (by omega) (hw 10 (of_decide_eq_true (by kernel_rfl))))
        obtain ⟨g, eg, hx⟩ := Has.ints (xs := [3]) (hfact 11 (by omega) (hw 11 (of_decide_eq_true (by kernel_rfl))))
        have es : x.tmps[35]?.getD undef = .slice (some ⟨g, 0, none⟩) 1 1 := (ev x 35).symm.trans eg
        have HC := Lib.hid ((out_long w1.heap.size (szSt (szAnd a 255) (szAnd a 65535) Z 3) (some ⟨g, 0, none⟩) 1 1 [3] wi rfl hx (by simp) (by exact HR12.out) (hcall wi).1 (HS.out 3 (by omega))).mono (fun e w'' ⟨he, h1, hg1⟩ => show ∃ v, e = Ending.returned v ∧ szInv w1.heap.size a n (szAnd a 255) (szAnd a 65535) Z w (fun j => if 12 = j then true else L j) (x.put (some (szDst 12)) v) w'' from ⟨_, he, sz_next w1.heap.size a n (szAnd a 255) (szAnd a 65535) Z 12 _ hI (by omega) hg1 rfl ((hcall w'').2 h1 hg1)⟩))
        clear hI hF hfact hch hw hL hi hcall hx eg
        refine wpOp_call rfl rfl ?_ HC.out
        go_simp
      · have e0 : x.tmps[1]?.getD undef = (.int .i64 n) := by rw [hF.2.2.2.1]; rfl
        have HK := Lib.hid (sz_next w1.heap.size a n (szAnd a 255) (szAnd a 65535) Z 13 (.int .i64 n) hI (by omega) (by_refl _ _) rfl (sz_stays w1.heap.size (szAnd a 255) (szAnd a 65535) Z 13 (by omega) (Below.refl _ _) hch))
        clear hI hF hfact hch hw hL hi
        refine wpOp_value (v := (.int .i64 n)) (w' := wi) rfl rfl ?_ HK.out
        go_simp
      · have e1 : x.tmps[37]?.getD undef = (.int .i64 n) := (ev x 37).symm.trans (hfact 13 (by omega) (hw 13 (of_decide_eq_true (by kernel_rfl))))
        have hlt := sz_lt hch
        have HMK := Lib.hid (make_run wi n Z h0 h1 HZ.out)
        have HK := Lib.hid (sz_next w1.heap.size a n (szAnd a 255) (szAnd a 65535) Z 14 (.slice (some ⟨wi.heap.size, 0, none⟩) n.toNat n.toNat) hI (by omega) (by_alloc (by_refl _ _) _) (by have h := Has.new wi w1.heap.size 5 (Lib.byteCells Z.data.toList).toArray hlt; rw [HZN.out] at h; exact h) (sz_stays w1.heap.size (szAnd a 255) (szAnd a 65535) Z 14 (by omega) ((Below.refl _ _).alloc (Nat.le_refl _) _) hch))
        clear hI hF hfact hch hw hL hi
        refine wpOp_value (v := (.slice (some ⟨wi.heap.size, 0, none⟩) n.toNat n.toNat)) (w' := (wi.alloc (.cells (Lib.byteCells Z.data.toList).toArray 5))) rfl rfl ?_ HK.out
        have hmk := HMK.out
        go_simp
      · obtain ⟨g, eg, hgo, hB⟩ : Has wi w1.heap.size 5 (Lib.byteCells Z.data.toList).toArray (x.eval (.tmp 38)) := hfact 14 (by omega) (hw 14 (of_decide_eq_true (by kernel_rfl)))
        rw [HZN.out] at eg
        have es : x.tmps[38]?.getD undef = .slice (some ⟨g, 0, none⟩) n.toNat n.toNat := (ev x 38).symm.trans eg
        have HCV := Lib.hid (conv_run wi g n Z HZ.out hB)
        have HK := Lib.hid (sz_next w1.heap.size a n (szAnd a 255) (szAnd a 65535) Z 15 (.string Z) hI (by omega) (by_refl _ _) rfl (sz_stays w1.heap.size (szAnd a 255) (szAnd a 65535) Z 15 (by omega) (Below.refl _ _) hch))
        clear hI hF hfact hch hw hL hi eg hB
        refine wpOp_value (v := (.string Z)) (w' := wi) rfl rfl ?_ HK.out
        have hcv := HCV.out
        go_simp
      · have e1 : x.tmps[39]?.getD undef = (.string Z) := (ev x 39).symm.trans (hfact 15 (by omega) (hw 15 (of_decide_eq_true (by kernel_rfl))))
        have hlt := sz_lt hch
        have HK := Lib.hid (sz_next w1.heap.size a n (szAnd a 255) (szAnd a 65535) Z 16 (.slice (some ⟨wi.heap.size, 0, none⟩) 1 1) hI (by omega) (by_alloc (by_refl _ _) _) (Has.new wi w1.heap.size 9 (([Z]).map Value.string).toArray hlt) (sz_stays w1.heap.size (szAnd a 255) (szAnd a 65535) Z 16 (by omega) ((Below.refl _ _).alloc (Nat.le_refl _) _) hch))
        clear hI hF hfact hch hw hL hi
        refine wpOp_value (v := (.slice (some ⟨wi.heap.size, 0, none⟩) 1 1)) (w' := (wi.alloc (.cells (([Z]).map Value.string).toArray 9))) rfl rfl ?_ HK.out
        go_simp
      · have hcall := fun w' => sz_call (w' := w') w1.heap.size (szAnd a 255) (szAnd a 65535) Z 17 4 (.inr (.inr (.inr (.inr ⟨rfl, rfl, (hw 12 (of_decide_eq_true (by kernel_rfl)))⟩)))) hL hch hoo
        have ep : x.tmps[36]?.getD undef = (.pointer (some ⟨w1.heap.size, 0, none⟩)) := (ev x 36).symm.trans (hfact 12 (by omega) (hw 12 (of_decide_eq_true (by kernel_rfl))))
        obtain ⟨g, eg, hx⟩ := Has.txts (xs := [Z]) (hfact 16 (by omega) (hw 16 (of_decide_eq_true (by kernel_rfl))))
        have es : x.tmps[40]?.getD undef = .slice (some ⟨g, 0, none⟩) 1 1 := (ev x 40).symm.trans eg
        have HC := Lib.hid ((out_text w1.heap.size (szSt (szAnd a 255) (szAnd a 65535) Z 4) (some ⟨g, 0, none⟩) 1 1 [Z] wi rfl hx (by simp) (by exact HT.out) (hcall wi).1 (HS.out 4 (by omega))).mono (fun e w'' ⟨he, h1, hg1⟩ => show ∃ v, e = Ending.returned v ∧ szInv w1.heap.size a n (szAnd a 255) (szAnd a 65535) Z w (fun j => if 17 = j then true else L j) (x.put (some (szDst 17)) v) w'' from ⟨_, he, sz_next w1.heap.size a n (szAnd a 255) (szAnd a 65535) Z 17 _ hI (by omega) hg1 rfl ((hcall w'').2 h1 hg1)⟩))
        clear hI hF hfact hch hw hL hi hcall hx eg
        refine wpOp_call rfl rfl ?_ HC.out
        go_simp
      · have ep : x.tmps[41]?.getD undef = (.pointer (some ⟨w1.heap.size, 0, none⟩)) := (ev x 41).symm.trans (hfact 17 (by omega) (hw 17 (of_decide_eq_true (by kernel_rfl))))
        have hO := sz_end w1.heap.size (szAnd a 255) (szAnd a 65535) Z hch (hw 17 (of_decide_eq_true (by kernel_rfl)))
        have HC := Lib.hid ((fin_any w1.heap.size (szSt (szAnd a 255) (szAnd a 65535) Z 5) wi hO HOK.out (HS.out 5 (by omega))).mono (fun e w'' ⟨he, _, hb⟩ => show ∃ v, e = Ending.returned v ∧ szInv w1.heap.size a n (szAnd a 255) (szAnd a 65535) Z w (fun j => if 18 = j then true else L j) (x.put (some (szDst 18)) v) w'' from ⟨_, he, sz_next w1.heap.size a n (szAnd a 255) (szAnd a 65535) Z 18 _ hI (by omega) (by_below hb (Nat.le_refl _)) rfl (sz_stays w1.heap.size (szAnd a 255) (szAnd a 65535) Z 18 (by omega) hb hch)⟩))
        clear hI hF hfact hch hw hL hi hO
        refine wpOp_call rfl rfl ?_ HC.out
        go_simp
      · have e1 : x.tmps[42]?.getD undef = (.tuple #[.string ⟨(szSt (szAnd a 255) (szAnd a 65535) Z 5).l.toArray⟩, .int .i64 (szSt (szAnd a 255) (szAnd a 65535) Z 5).e]) := (ev x 42).symm.trans (hfact 18 (by omega) (hw 18 (of_decide_eq_true (by kernel_rfl))))
        have HK := Lib.hid (sz_next w1.heap.size a n (szAnd a 255) (szAnd a 65535) Z 19 (.tuple #[.string ⟨(szSt (szAnd a 255) (szAnd a 65535) Z 5).l.toArray⟩, .int .i64 (szSt (szAnd a 255) (szAnd a 65535) Z 5).e]) hI (by omega) (by_refl _ _) rfl (sz_stays w1.heap.size (szAnd a 255) (szAnd a 65535) Z 19 (by omega) (Below.refl _ _) hch))
        clear hI hF hfact hch hw hL hi
        refine wpOp_value (v := (.tuple #[.string ⟨(szSt (szAnd a 255) (szAnd a 65535) Z 5).l.toArray⟩, .int .i64 (szSt (szAnd a 255) (szAnd a 65535) Z 5).e])) (w' := wi) rfl rfl ?_ HK.out
        go_simp
      · have e1 : x.tmps[23]?.getD undef = (.tuple #[.string ⟨(szSt (szAnd a 255) (szAnd a 65535) Z 5).l.toArray⟩, .int .i64 (szSt (szAnd a 255) (szAnd a 65535) Z 5).e]) := (ev x 23).symm.trans (hfact 19 (by omega) (hw 19 (of_decide_eq_true (by kernel_rfl))))
        have HK := Lib.hid (sz_next w1.heap.size a n (szAnd a 255) (szAnd a 65535) Z 20 (.string ⟨(szSt (szAnd a 255) (szAnd a 65535) Z 5).l.toArray⟩) hI (by omega) (by_refl _ _) rfl (sz_stays w1.heap.size (szAnd a 255) (szAnd a 65535) Z 20 (by omega) (Below.refl _ _) hch))
        clear hI hF hfact hch hw hL hi
        refine wpOp_value (v := (.string ⟨(szSt (szAnd a 255) (szAnd a 65535) Z 5).l.toArray⟩)) (w' := wi) rfl rfl ?_ HK.out
        go_simp
      · have e1 : x.tmps[23]?.getD undef = (.tuple #[.string ⟨(szSt (szAnd a 255) (szAnd a 65535) Z 5).l.toArray⟩, .int .i64 (szSt (szAnd a 255) (szAnd a 65535) Z 5).e]) := (ev x 23).symm.trans (hfact 19 (by omega) (hw 19 (of_decide_eq_true (by kernel_rfl))))
        have HK := Lib.hid (sz_next w1.heap.size a n (szAnd a 255) (szAnd a 65535) Z 21 (.int .i64 (szSt (szAnd a 255) (szAnd a 65535) Z 5).e) hI (by omega) (by_refl _ _) rfl (sz_stays w1.heap.size (szAnd a 255) (szAnd a 65535) Z 21 (by omega) (Below.refl _ _) hch))
        clear hI hF hfact hch hw hL hi
        refine wpOp_value (v := (.int .i64 (szSt (szAnd a 255) (szAnd a 65535) Z 5).e)) (w' := wi) rfl rfl ?_ HK.out
        go_simp
      · have e1 : x.tmps[43]?.getD undef = (.string ⟨(szSt (szAnd a 255) (szAnd a 65535) Z 5).l.toArray⟩) := (ev x 43).symm.trans (hfact 20 (by omega) (hw 20 (of_decide_eq_true (by kernel_rfl))))
        have HK := Lib.hid (sz_next w1.heap.size a n (szAnd a 255) (szAnd a 65535) Z 22 (.string ⟨(szSt (szAnd a 255) (szAnd a 65535) Z 5).l.toArray⟩) hI (by omega) (by_refl _ _) rfl (sz_stays w1.heap.size (szAnd a 255) (szAnd a 65535) Z 22 (by omega) (Below.refl _ _) hch))
        clear hI hF hfact hch hw hL hi
        refine wpOp_value (v := (.string ⟨(szSt (szAnd a 255) (szAnd a 65535) Z 5).l.toArray⟩)) (w' := wi) rfl rfl ?_ HK.out
        go_simp
      · have e1 : x.tmps[44]?.getD undef = (.int .i64 (szSt (szAnd a 255) (szAnd a 65535) Z 5).e) := (ev x 44).symm.trans (hfact 21 (by omega) (hw 21 (of_decide_eq_true (by kernel_rfl))))
        have HK := Lib.hid (sz_next w1.heap.size a n (szAnd a 255) (szAnd a 65535) Z 23 (.int .i64 (szSt (szAnd a 255) (szAnd a 65535) Z 5).e) hI (by omega) (by_refl _ _) rfl (sz_stays w1.heap.size (szAnd a 255) (szAnd a 65535) Z 23 (by omega) (Below.refl _ _) hch))
        clear hI hF hfact hch hw hL hi
        refine wpOp_value (v := (.int .i64 (szSt (szAnd a 255) (szAnd a 65535) Z 5).e)) (w' := wi) rfl rfl ?_ HK.out
        go_simp
  case rest =>
    obtain ⟨rfl, rfl, hO, hbc⟩ := hcut
    have hoo : w.heap.size ≤ w1.heap.size := hb1.size
    clear hb1
    by_cases hbig : 65535 < n
    · have hz := H5.out.2 (by rw [HZS.out]; omega)
      rw [hz] at hO ⊢
      clear hz
      go_wp2_with fail
      with_reducible refine (out_byte w1.heap.size ⟨[], 2⟩ (some ⟨wc.heap.size, 0, none⟩) 1 1 [1] _ rfl ?_ (by simp) HR1.out ?_ (by simp)).mono ?_
      · exact ints_at _ _ _ _ rfl rfl
      · exact hO.below ((Below.refl _ _).alloc (Nat.le_refl _) _)
      rintro e w2 ⟨rfl, h2, hg2⟩
      have e2 : (Wr.mk [] 2).nums 1 [1] = ⟨[], 2⟩ := by simp [Wr.nums, Wr.lay, Wr.fail]
      rw [e2] at h2
      clear e2
      have hb2 : Below w.heap.size w w2 := below_by_new (hbc.alloc hbc.size _) hg2 hoo
      clear hbc hg2 hO
      go_wp2_with fail
      with_reducible refine (fin_any w1.heap.size ⟨[], 2⟩ _ h2 (by unfold Wr.ok; intro _; rfl) (by simp)).mono ?_
      rintro e w3 ⟨rfl, _, hc3⟩
      have hb3 : Below w.heap.size w w3 := hb2.trans (hc3.mono hb2.size)
      clear hc3 hb2 h2
      go_wp2_with fail
      go_ret
      exact ⟨rfl, hb3⟩
    · obtain ⟨hz, hl⟩ := H5.out.1 (by rw [HZS.out]; omega)
      rw [hz]
      have hs : ((⟨(szSt (szAnd a 255) (szAnd a 65535) Z 5).l.toArray⟩ : ByteArray).size : Int) = 22 + n := by
        show (((szSt (szAnd a 255) (szAnd a 65535) Z 5).l.toArray.size : Nat) : Int) = _
        rw [List.size_toArray, hl, HZS.out]
        omega
      generalize (⟨(szSt (szAnd a 255) (szAnd a 65535) Z 5).l.toArray⟩ : ByteArray) = S at *
      clear hz hl hO
      have hw1 : IntKind.i64.wrap (22 + n) = 22 + n := IntWalk.i64_in _ (by omega)
      go_wp2_with fail
      go_ret
      exact ⟨by simp, hbc⟩
end Go.Proofs.YtdfickppfihiiaaDoor
