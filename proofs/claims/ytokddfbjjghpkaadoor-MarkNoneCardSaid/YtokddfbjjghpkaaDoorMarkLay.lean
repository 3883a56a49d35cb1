/-
  Package mark's Lay.
-/
import Derived.Test.YtokddfbjjghpkaaDoorMarkSmall
import Derived.Test.YtokddfbjjghpkaaDoorOuts
import Derived.Test.YtokddfbjjghpkaaDoorChain
namespace Go.Proofs.YtokddfbjjghpkaaDoor
open Go.RowKit

/-- The bytes of a print that may be: its kind, its bytes, zero bytes. -/
def layB (k : Int) (s : ByteArray) : List UInt8 := k.toNat.toUInt8 :: (s.data.toList ++ List.replicate (32 - s.size) 0)
def layV (k : Int) (s : ByteArray) : Value := if validK k s = true then .tuple #[.string ⟨(layB k s).toArray⟩, .int .i64 0] else .tuple #[.string .empty, .int .i64 1]

theorem ints_blk {w : World} {b : Nat} {k : Int} (h : Blk w b 3 #[.int .i64 k]) : Ints w w.heap.size (some ⟨b, 0, none⟩) [k] := by
  intro _
  refine ⟨b, 0, rfl, h.lt, fun j x hx => ?_⟩
  match j, hx with
  | 0, hx =>
    obtain rfl : k = x := by simpa using hx
    exact h.cell 0
theorem txts_blk {w : World} {b : Nat} {s : ByteArray} (h : Blk w b 9 #[.string s]) : Txts w w.heap.size (some ⟨b, 0, none⟩) [s] := by
  intro _
  refine ⟨b, 0, rfl, h.lt, fun j x hx => ?_⟩
  match j, hx with
  | 0, hx =>
    obtain rfl : s = x := by simpa using hx
    exact h.cell 0
theorem OutAt.grownT {w w' : World} {o : Nat} {s : Wr} (h : OutAt w o s) (hg : w.grownBy w' (some o)) : GrownT 41 w w' := by
  obtain ⟨p, r, hb, _⟩ := h
  exact GrownT.of_by hg hb
theorem OutAt.kept {w w' : World} {o : Nat} {s : Wr} (h : OutAt w o s) (hg : w.grownBy w' none) : OutAt w' o s := h.below (below_by hg)

/-- The writer behind each call. -/
def laySt (k : Int) (s : ByteArray) : Nat → Wr
  | 0 | 1 => ⟨[], 0⟩
  | 2 => Wr.nums ⟨[], 0⟩ 1 [k]
  | 3 => (Wr.nums ⟨[], 0⟩ 1 [k]).raws [s]
  | _ => ((Wr.nums ⟨[], 0⟩ 1 [k]).raws [s]).pad 33
theorem laySt_two {k : Int} (s : ByteArray) (h0 : 0 ≤ k) (h1 : k < 256) : laySt k s 2 = ⟨[k.toNat.toUInt8], 0⟩ := by
  show Wr.nums ⟨[], 0⟩ 1 [k] = _
  unfold Wr.nums
  have hf : allFit 1 [k] = true := by
    unfold allFit
    rw [List.all_cons, (fits_iff 1 k).2 ⟨h0, by simpa using h1⟩]
    rfl
  rw [if_pos hf]
  unfold Wr.lay
  simp [allBytes, lowBytes]
theorem laySt_three {k : Int} (s : ByteArray) (h0 : 0 ≤ k) (h1 : k < 256) : laySt k s 3 = ⟨k.toNat.toUInt8 :: s.data.toList, 0⟩ := by
  show Wr.raws (laySt k s 2) [s] = _
  rw [laySt_two s h0 h1]
  unfold Wr.raws Wr.lay
  simp
theorem laySt_four {k : Int} {s : ByteArray} (h0 : 0 ≤ k) (h1 : k < 256) (hs : s.size ≤ 32) : laySt k s 4 = ⟨layB k s, 0⟩ := by
  show Wr.pad (laySt k s 3) 33 = _
  rw [laySt_three s h0 h1]
  have hl : (k.toNat.toUInt8 :: s.data.toList).length = s.size + 1 := by rw [List.length_cons, ← Lib.size_eq]
  unfold Wr.pad
  rw [if_neg (by omega), if_neg (by simp only [hl]; omega)]
  unfold Wr.lay layB
  simp only [hl, if_true, List.cons_append]
  congr 4
  omega

def layD (i : Nat) : Option Nat := [7, 8, 9, 10, 11, 12, 13, 14, 15, 16, 17, 18, 19, 2, 3][i]?
theorem layD_inj (i j s : Nat) (_ : i < 15) (_ : j < 15) (h1 : layD i = some s) (h2 : layD j = some s) : i = j := slots_inj (by decide) i j s h1 h2
theorem layD_lt (i s : Nat) (_ : i < 15) (h : layD i = some s) : s < 20 := (by decide : ∀ x ∈ [7, 8, 9, 10, 11, 12, 13, 14, 15, 16, 17, 18, 19, 2, 3], x < 20) s (List.mem_of_getElem? h)
def layC (n : Nat) : Nat := [0, 4, 8, 9, 10].getD n 0
theorem layC_inj (i j : Nat) (hi : i < 5) (hj : j < 5) (h : layC i = layC j) : i = j := (by decide : ∀ i, i < 5 → ∀ j, j < 5 → layC i = layC j → i = j) i hi j hj h
theorem layC_lt : ∀ i, i < 5 → layC i < 15 := by decide
def layF (B : Nat) (k : Int) (s T : ByteArray) : Nat → Value → World → Prop
  | 1, v, _ => v = .pointer (some ⟨B, 0, none⟩)
  | 2, v, _ => v = .int .i64 k
  | 3, v, w => ∃ b, v = .slice (some ⟨b, 0, none⟩) 1 1 ∧ Blk w b 3 #[.int .i64 k]
  | 5, v, _ => v = .pointer (some ⟨B, 1, none⟩)
  | 6, v, _ => v = .string s
  | 7, v, w => ∃ b, v = .slice (some ⟨b, 0, none⟩) 1 1 ∧ Blk w b 9 #[.string s]
  | 10, v, _ => v = .tuple #[.string T, .int .i64 0]
  | 11, v, _ => v = .string T
  | 12, v, _ => v = .int .i64 0
  | 13, v, _ => v = .string T
  | 14, v, _ => v = .int .i64 0
  | _, _, _ => True
def layCh (W0 : World) (k : Int) (s : ByteArray) : Nat → Value → World → Prop
  | 0, _, w => Below W0.heap.size W0 w
  | 5, _, w => Below W0.heap.size W0 w
  | n, v, w => Below W0.heap.size W0 w ∧ ∃ g, v = .pointer (some ⟨g, 0, none⟩) ∧ W0.heap.size ≤ g ∧ OutAt w g (laySt k s n)
theorem layCh_below {W0 : World} {k : Int} {s : ByteArray} {n : Nat} {v : Value} {w : World} (h : layCh W0 k s n v w) : Below W0.heap.size W0 w := by
  unfold layCh at h
  split at h
  · exact h
  · exact h
  · exact h.1
theorem below_none {B : Nat} {w w' w'' : World} (h : Below B w w') (hg : w'.grownBy w'' none) (hB : B ≤ w'.heap.size) : Below B w w'' := h.trans ((below_by hg).mono hB)
theorem layCh_kept {W0 : World} {k : Int} {s : ByteArray} (n : Nat) (v : Value) (w w' : World) (h : layCh W0 k s n v w) (hg : w.grownBy w' none) : layCh W0 k s n v w' := by
  have hb := layCh_below h
  have hb' := below_none hb hg hb.size
  unfold layCh at h ⊢
  split at h
  · exact hb'
  · exact hb'
  · obtain ⟨_, g, hv, hW, ho⟩ := h
    exact ⟨hb', g, hv, hW, ho.kept hg⟩
theorem layF_kept {B : Nat} {k : Int} {s T : ByteArray} (i : Nat) (v : Value) (w w' : World) (h : layF B k s T i v w) (hg : GrownT 41 w w') : layF B k s T i v w' := by
  unfold layF at h ⊢
  split at h <;> first
    | exact h
    | (obtain ⟨b, hv, hb⟩ := h; exact ⟨b, hv, hb.grownT hg (by decide)⟩)
    | trivial

set_option maxRecDepth 100000 in
set_option maxHeartbeats 4000000 in
theorem lay_valid (k : Int) (s : ByteArray) (w : World) (h0 : 0 ≤ k) (h1 : k < 256) (hs : s.size ≤ 32) (hv : validK k s = true) :
    Calls Tryd.prog 6 #[.agg #[.int .i64 k, .string s]] w fun e w' => e = .returned (.tuple #[.string ⟨(layB k s).toArray⟩, .int .i64 0]) ∧ Below w.heap.size w w' := by
  have HV : Hid (∀ w, Calls Tryd.prog 9 #[.agg #[.int .i64 k, .string s]] w fun e w' => e = .returned (.bool true) ∧ Below w.heap.size w w') := Lib.hid (fun w => by have := valid_any k s w; rwa [hv] at this)
  obtain ⟨T, hT⟩ : ∃ T : ByteArray, T = ⟨(layB k s).toArray⟩ := ⟨_, rfl⟩
  rw [← hT]
  have S2 := Lib.hid (laySt_two s h0 h1)
  have S3 := Lib.hid (laySt_three s h0 h1)
  have S4 := Lib.hid (laySt_four h0 h1 hs)
  have HT := Lib.hid hT
  have HR := Lib.hid (inRange_one (n := k) (by omega) (by omega))
  clear hT hv
  go_enter Tryd.func6, Tryd.ntmps6
  go_wp2_with fail
  refine (HV.out _).mono ?_
  rintro e w1 ⟨rfl, hb1⟩
  have b0 : Blk w1 w.heap.size 24 #[.int .i64 k, .string s] := (Blk.new w _ _).below hb1 (by simp)
  have hb : Below w.heap.size w w1 := ((Below.refl _ _).alloc (Nat.le_refl _) _).trans (hb1.mono (by simp))
  have HBW := Lib.hid hb
  have HC : Hid (∀ w', Below w1.heap.size w1 w' → w'.cell? ⟨w.heap.size, 0, none⟩ = some (.int .i64 k) ∧ w'.cell? ⟨w.heap.size, 1, none⟩ = some (.string s)) := Lib.hid (fun w' hw => ⟨(b0.below hw b0.lt).cell 0, (b0.below hw b0.lt).cell 1⟩)
  clear hb1 b0 hb
  go_upto_region 3 with fail
  refine wp_region_chain 41 15 layD 5 layC (layF w.heap.size k s T) (layCh w1 k s) (by kernel_rfl) (by kernel_rfl) rfl layD_inj layD_lt layC_lt layC_inj ?hcw layF_kept layCh_kept ?h0 ?hloose ?hchain ?hK
  case hcw =>
    intro n hn
    rcases (show n = 0 ∨ n = 1 ∨ n = 2 ∨ n = 3 by omega) with rfl | rfl | rfl | rfl <;> exact of_decide_eq_true (by kernel_rfl)
  case h0 => exact below_drew (Below.refl _ _)
  case hloose =>
    intro i hi hn y w2 hf hw hch
    obtain ⟨nn, vv, _, hcc⟩ := hch
    have hbe := layCh_below hcc
    clear hcc
    rcases (show i = 0 ∨ i = 1 ∨ i = 2 ∨ i = 3 ∨ i = 4 ∨ i = 5 ∨ i = 6 ∨ i = 7 ∨ i = 8 ∨ i = 9 ∨ i = 10 ∨ i = 11 ∨ i = 12 ∨ i = 13 ∨ i = 14 by omega) with rfl | rfl | rfl | rfl | rfl | rfl | rfl | rfl | rfl | rfl | rfl | rfl | rfl | rfl | rfl
    · exact absurd rfl (hn 0 (by omega))
    · have e1 : y.tmps[1]?.getD undef = .pointer (some ⟨w.heap.size, 0, none⟩) := by rw [hf.2.2 1 (by decide)]; rfl
      clear hf hw hn hbe
      refine wpOp_value (v := .pointer (some ⟨w.heap.size, 0, none⟩)) (w' := w2) rfl rfl ?_ ⟨_, rfl, (fun h => by cases h), by_refl _ _, rfl⟩
      go_simp
    · have e1 : y.tmps[8]?.getD undef = .pointer (some ⟨w.heap.size, 0, none⟩) := hw 1 (of_decide_eq_true (by kernel_rfl))
      obtain ⟨c0, c1⟩ := HC.out w2 hbe
      clear hf hw hn hbe
      refine wpOp_value (v := .int .i64 k) (w' := w2) rfl rfl ?_ ⟨_, rfl, (fun h => by cases h), by_refl _ _, rfl⟩
      go_simp
    · have e1 : y.tmps[9]?.getD undef = .int .i64 k := hw 2 (of_decide_eq_true (by kernel_rfl))
      clear hf hw hn hbe
      refine wpOp_value (v := .slice (some ⟨w2.heap.size, 0, none⟩) 1 1) (w' := w2.alloc (.cells #[.int .i64 k] 3)) rfl rfl ?_ ⟨_, rfl, (fun h => by cases h), by_alloc (by_refl _ _) _, ⟨_, rfl, Blk.new _ _ _⟩⟩
      go_simp
    · exact absurd rfl (hn 1 (by omega))
    · have e1 : y.tmps[1]?.getD undef = .pointer (some ⟨w.heap.size, 0, none⟩) := by rw [hf.2.2 1 (by decide)]; rfl
      clear hf hw hn hbe
      refine wpOp_value (v := .pointer (some ⟨w.heap.size, 1, none⟩)) (w' := w2) rfl rfl ?_ ⟨_, rfl, (fun h => by cases h), by_refl _ _, rfl⟩
      go_simp
    · have e1 : y.tmps[12]?.getD undef = .pointer (some ⟨w.heap.size, 1, none⟩) := hw 5 (of_decide_eq_true (by kernel_rfl))
      obtain ⟨c0, c1⟩ := HC.out w2 hbe
      clear hf hw hn hbe
      refine wpOp_value (v := .string s) (w' := w2) rfl rfl ?_ ⟨_, rfl, (fun h => by cases h), by_refl _ _, rfl⟩
      go_simp
    · have e1 : y.tmps[13]?.getD undef = .string s := hw 6 (of_decide_eq_true (by kernel_rfl))
      clear hf hw hn hbe
      refine wpOp_value (v := .slice (some ⟨w2.heap.size, 0, none⟩) 1 1) (w' := w2.alloc (.cells #[.string s] 9)) rfl rfl ?_ ⟨_, rfl, (fun h => by cases h), by_alloc (by_refl _ _) _, ⟨_, rfl, Blk.new _ _ _⟩⟩
      go_simp
    · exact absurd rfl (hn 2 (by omega))
    · exact absurd rfl (hn 3 (by omega))
    · exact absurd rfl (hn 4 (by omega))
    · have e1 : y.tmps[17]?.getD undef = .tuple #[.string T, .int .i64 0] := hw 10 (of_decide_eq_true (by kernel_rfl))
      clear hf hw hn hbe
      refine wpOp_value (v := .string T) (w' := w2) rfl rfl ?_ ⟨_, rfl, (fun h => by cases h), by_refl _ _, rfl⟩
      go_simp
    · have e1 : y.tmps[17]?.getD undef = .tuple #[.string T, .int .i64 0] := hw 10 (of_decide_eq_true (by kernel_rfl))
      clear hf hw hn hbe
      refine wpOp_value (v := .int .i64 0) (w' := w2) rfl rfl ?_ ⟨_, rfl, (fun h => by cases h), by_refl _ _, rfl⟩
      go_simp
    · have e1 : y.tmps[18]?.getD undef = .string T := hw 11 (of_decide_eq_true (by kernel_rfl))
      clear hf hw hn hbe
      refine wpOp_value (v := .string T) (w' := w2) rfl rfl ?_ ⟨_, rfl, (fun h => by cases h), by_refl _ _, rfl⟩
      go_simp
    · have e1 : y.tmps[19]?.getD undef = .int .i64 0 := hw 12 (of_decide_eq_true (by kernel_rfl))
      clear hf hw hn hbe
      refine wpOp_value (v := .int .i64 0) (w' := w2) rfl rfl ?_ ⟨_, rfl, (fun h => by cases h), by_refl _ _, rfl⟩
      go_simp
  case hchain =>
    intro n hn y w2 hf hw hch
    rcases (show n = 0 ∨ n = 1 ∨ n = 2 ∨ n = 3 ∨ n = 4 by omega) with rfl | rfl | rfl | rfl | rfl
    · have hbe : Below w1.heap.size w1 w2 := hch
      clear hf hw hch
      change wpOp _ _ _ 0 _ _ _
      refine wpOp_value (v := .pointer (some ⟨w2.heap.size, 0, none⟩)) (w' := w2.alloc (.cells #[.pointer none, .int .i64 0, .int .i64 0] 41)) rfl rfl ?_ ⟨_, rfl, (fun h => by cases h), GrownT.of_none (by_alloc (by_refl _ _) _), ⟨hbe.alloc hbe.size _, _, rfl, hbe.size, OutAt.new w2⟩, trivial⟩
      go_simp
    · obtain ⟨hbe, g, hg, hgW, ho⟩ := hch
      have e1 : y.tmps[7]?.getD undef = .pointer (some ⟨g, 0, none⟩) := hg
      obtain ⟨b, e2, hbk⟩ : ∃ b, y.tmps[10]?.getD undef = .slice (some ⟨b, 0, none⟩) 1 1 ∧ Blk w2 b 3 #[.int .i64 k] := hw 3 (of_decide_eq_true (by kernel_rfl))
      clear hf hw hg
      change wpOp _ _ _ 4 _ _ _
      refine wpOp_call (f := 13) (args := #[.pointer (some ⟨g, 0, none⟩), .slice (some ⟨b, 0, none⟩) 1 1]) rfl rfl (by go_simp) ((out_byte g _ _ 1 1 [k] w2 rfl (ints_blk hbk) (by simp) HR.out ho (by simp [laySt])).mono ?_)
      rintro e w3 ⟨rfl, h3, hg3⟩
      exact ⟨_, rfl, _, rfl, (fun h => by cases h), ho.grownT hg3, ⟨below_by_new hbe hg3 hgW, g, rfl, hgW, h3⟩, trivial⟩
    · obtain ⟨hbe, g, hg, hgW, ho⟩ := hch
      have e1 : y.tmps[11]?.getD undef = .pointer (some ⟨g, 0, none⟩) := hg
      obtain ⟨b, e2, hbk⟩ : ∃ b, y.tmps[14]?.getD undef = .slice (some ⟨b, 0, none⟩) 1 1 ∧ Blk w2 b 9 #[.string s] := hw 7 (of_decide_eq_true (by kernel_rfl))
      clear hf hw hg
      change wpOp _ _ _ 8 _ _ _
      refine wpOp_call (f := 14) (args := #[.pointer (some ⟨g, 0, none⟩), .slice (some ⟨b, 0, none⟩) 1 1]) rfl rfl (by go_simp) ((out_raw g _ _ 1 1 [s] w2 rfl (txts_blk hbk) (by simp) (by rw [cats_one, ← Lib.size_eq]; omega) ho (by rw [S2.out]; simp)).mono ?_)
      rintro e w3 ⟨rfl, h3, hg3⟩
      exact ⟨_, rfl, _, rfl, (fun h => by cases h), ho.grownT hg3, ⟨below_by_new hbe hg3 hgW, g, rfl, hgW, h3⟩, trivial⟩
    · obtain ⟨hbe, g, hg, hgW, ho⟩ := hch
      have e1 : y.tmps[15]?.getD undef = .pointer (some ⟨g, 0, none⟩) := hg
      clear hf hw hg
      change wpOp _ _ _ 9 _ _ _
      refine wpOp_call (f := 15) (args := #[.pointer (some ⟨g, 0, none⟩), .int .i64 33]) rfl rfl (by go_simp) ((pad_any g _ 33 w2 ho (by rw [S3.out]; simp only [List.length_cons]; rw [← Lib.size_eq]; omega)).mono ?_)
      rintro e w3 ⟨rfl, h3, hg3⟩
      exact ⟨_, rfl, _, rfl, (fun h => by cases h), ho.grownT hg3, ⟨below_by_new hbe hg3 hgW, g, rfl, hgW, h3⟩, trivial⟩
    · obtain ⟨hbe, g, hg, hgW, ho⟩ := hch
      have e1 : y.tmps[16]?.getD undef = .pointer (some ⟨g, 0, none⟩) := hg
      have hlen : (laySt k s 4).l.length ≤ 140737488351232 := by
        rw [S4.out]
        show (layB k s).length ≤ _
        unfold layB
        rw [List.length_cons, List.length_append, List.length_replicate, ← Lib.size_eq]
        omega
      clear hf hw hg
      change wpOp _ _ _ 10 _ _ _
      refine wpOp_call (f := 16) (args := #[.pointer (some ⟨g, 0, none⟩)]) rfl rfl (by go_simp) ((fin_any g _ w2 ho (by rw [S4.out]; exact Wr.ok_zero _) hlen).mono ?_)
      rintro e w3 ⟨rfl, h3, hb3⟩
      refine ⟨_, rfl, _, rfl, (fun h => by cases h), GrownT.of_none (by_below hb3 (Nat.le_refl _)), hbe.trans (hb3.mono hbe.size), ?_⟩
      show Value.tuple #[.string ⟨(laySt k s 4).l.toArray⟩, .int .i64 (laySt k s 4).e] = .tuple #[.string T, .int .i64 0]
      rw [S4.out, HT.out]
  case hK =>
    intro y w2 hf hv hch
    obtain ⟨_, hbe⟩ := hch
    have hbe : Below w1.heap.size w1 w2 := hbe
    have e2 : y.tmps[2]?.getD undef = .string T := hv 13 (by omega)
    have e3 : y.tmps[3]?.getD undef = .int .i64 0 := hv 14 (by omega)
    have hd : y.defers = [] := hf.1
    clear hf hv
    obtain ⟨tt, dd⟩ := y
    obtain rfl : dd = [] := hd
    have f2 : tt.getD 2 undef = .string T := by rw [Array.getD_eq_getD_getElem?]; exact e2
    have f3 : tt.getD 3 undef = .int .i64 0 := by rw [Array.getD_eq_getD_getElem?]; exact e3
    clear e2 e3
    go_wp2_with fail
    go_ret2
    exact ⟨by rw [f2, f3], HBW.out.trans (hbe.mono HBW.out.size)⟩

set_option maxRecDepth 100000 in
set_option maxHeartbeats 1000000 in
theorem lay_any6 (k : Int) (s : ByteArray) (w : World) :
    Calls Tryd.prog 6 #[.agg #[.int .i64 k, .string s]] w fun e w' => e = .returned (layV k s) ∧ Below w.heap.size w w' := by
  cases hv : validK k s with
  | true =>
    have h := hv
    simp only [validK, Bool.and_eq_true, decide_eq_true_eq] at h
    have hr := sizeK_range k
    have hk : 0 ≤ k ∧ k < 256 := by
      by_cases h1 : k = 1
      · omega
      · by_cases h2 : k = 2
        · omega
        · rw [sizeK_other h1 h2] at h; omega
    rw [show layV k s = _ from if_pos hv]
    exact lay_valid k s w hk.1 hk.2 (by omega) hv
  | false =>
    rw [show layV k s = _ from if_neg (by rw [hv]; decide)]
    have HV : Hid (∀ w, Calls Tryd.prog 9 #[.agg #[.int .i64 k, .string s]] w fun e w' => e = .returned (.bool false) ∧ Below w.heap.size w w') := Lib.hid (fun w => by have := valid_any k s w; rwa [hv] at this)
    clear hv
    go_enter Tryd.func6, Tryd.ntmps6
    go_wp2_with fail
    refine (HV.out _).mono ?_
    rintro e w1 ⟨rfl, hb1⟩
    go_wp2_with fail
    go_ret2
    exact ⟨rfl, ((Below.refl _ _).alloc (Nat.le_refl _) _).trans (hb1.mono (by simp))⟩
end Go.Proofs.YtokddfbjjghpkaaDoor
