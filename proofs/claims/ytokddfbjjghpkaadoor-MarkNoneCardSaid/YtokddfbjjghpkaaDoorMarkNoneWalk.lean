/-
  MarkNone, walked.
-/
import Derived.Test.YtokddfbjjghpkaaDoorMarkNonePure
namespace Go.Proofs.YtokddfbjjghpkaaDoor
open Go.RowKit

theorem zero_tail {B : ByteArray} {k : Int} {T : ByteArray} (hB : B = ⟨(layB k T).toArray⟩) (hT : T.size = 20) : ((B.extract 1 33).data.toList.drop 20).all (· == 0) = true := by
  rw [extract_list, hB]
  show (((layB k T).drop 1).take 32 |>.drop 20).all (· == 0) = true
  unfold layB
  rw [List.drop_succ_cons, List.drop_zero, hT]
  have h1 : T.data.toList.length = 20 := by rw [← Lib.size_eq]; exact hT
  rw [List.take_of_length_le (by simp [h1]), List.drop_append_of_le_length (by omega), List.drop_of_length_le (by omega)]
  simp
theorem readE_x {B : ByteArray} {T : ByteArray} (hB : B = ⟨(layB 1 T).toArray⟩) (hT : T.size = 20) (h33 : B.size = 33) : readE (B.extract 0 32 ++ ⟨#[120]⟩) = 6 := by
  have hs : (B.extract 0 32 ++ (⟨#[120]⟩ : ByteArray)).size = 33 := by
    rw [ByteArray.size_append]
    have : (B.extract 0 32).size = 32 := by simp; omega
    rw [this]
    rfl
  have hl : (B.extract 0 32 ++ (⟨#[120]⟩ : ByteArray)).data.toList = (layB 1 T).take 32 ++ [120] := by
    rw [cat_list, extract_list, hB]
    rfl
  have hk : kindB (B.extract 0 32 ++ (⟨#[120]⟩ : ByteArray)) = 1 := by
    unfold kindB
    rw [hl]
    rfl
  have hlen : ((layB 1 T).take 32).length = 32 := by
    have : (layB 1 T).length = 33 := by unfold layB; rw [List.length_cons, List.length_append, List.length_replicate, ← Lib.size_eq, hT]
    rw [List.length_take, this]
    rfl
  unfold readE
  rw [if_neg (by rw [hs]; decide), if_neg]
  unfold readOk
  rw [hk, hs, hl, show (1 + (sizeK 1).toNat) = 21 from rfl, List.drop_append_of_le_length (by omega), List.all_append]
  simp

set_option maxRecDepth 100000 in
set_option maxHeartbeats 8000000 in
theorem mnone_in (s : ByteArray) (n : Nat) (mo kind : Int) (hmo : mo = (n : Int)) (w : World) (hs : s.size ≤ 200) (hn : n ≤ 60) :
    Calls Tryd.prog 3 #[.string s, .int .i64 mo, .int .i64 kind] w fun e w' => e = .returned (.bool true) ∧ Below w.heap.size w w' := by
  have hz1 : sizeK 1 ≠ 0 := by decide
  obtain ⟨T, hT⟩ : ∃ T, T = printOf 1 [s] := ⟨_, rfl⟩
  have hvT : validK 1 T = true := by rw [hT]; exact printOf_valid hz1 _
  have hTs : T.size = 20 := by have := printOf_size hz1 [s]; rw [← hT] at this; have : (T.size : Int) = 20 := this; omega
  have HO : Hid (∀ (w1 : World) (g : Nat), Txts w1 w1.heap.size (some ⟨g, 0, none⟩) [s] → Calls Tryd.prog 5 #[.int .i64 1, .slice (some ⟨g, 0, none⟩) 1 1] w1 fun e w' => e = .returned (.tuple #[.agg #[.int .i64 1, .string T], .int .i64 0]) ∧ Below w1.heap.size w1 w') := Lib.hid (fun w1 g h => by
    have := mof_any 1 _ 1 1 [s] w1 rfl h (by omega) (by omega) (by rw [cats_one, ← Lib.size_eq]; omega)
    rw [ofV_yes hz1, ← hT] at this
    exact this)
  obtain ⟨B, hB⟩ : ∃ B : ByteArray, B = ⟨(layB 1 T).toArray⟩ := ⟨_, rfl⟩
  have HL : Hid (∀ w1, Calls Tryd.prog 6 #[.agg #[.int .i64 1, .string T]] w1 fun e w' => e = .returned (.tuple #[.string B, .int .i64 0]) ∧ Below w1.heap.size w1 w') := Lib.hid (fun w1 => by
    have := lay_any6 1 T w1
    rw [layV_yes hvT, ← hB] at this
    exact this)
  have hBs : B.size = 33 := by rw [hB]; exact layB_size (by omega)
  have HBI : Hid ((B.size : Int) = 33) := Lib.hid (by omega)
  obtain ⟨Y0, hY0⟩ : ∃ Y, Y = B ++ zeroB n := ⟨_, rfl⟩
  obtain ⟨Y2, hY2⟩ : ∃ Y, Y = B.extract 0 32 := ⟨_, rfl⟩
  obtain ⟨B1, hB1⟩ : ∃ Y, Y = B.extract 1 33 := ⟨_, rfl⟩
  obtain ⟨x, hx⟩ : ∃ x : Nat, x = (kind % 256).toNat := ⟨_, rfl⟩
  have hx256 : x < 256 := by omega
  have hxI : kind % 256 = (x : Int) := by omega
  have y0s : Y0.size = 33 + n := by rw [hY0, ByteArray.size_append, zeroB_size, hBs]
  have y2s : Y2.size = 32 := by rw [hY2]; simp; omega
  have b1s : B1.size = 32 := by rw [hB1]; simp; omega
  obtain ⟨k0, s0, e0⟩ := readE_form Y0
  obtain ⟨k2, s2, e2⟩ := readE_form Y2
  obtain ⟨k3, s3, e3⟩ := readE_form (Y2 ++ ⟨#[120]⟩)
  obtain ⟨k4, s4, e4⟩ := readE_form (⟨#[x.toUInt8]⟩ ++ B1)
  have g2 : readE Y2 = 5 := if_pos (by omega)
  have g3 : readE (Y2 ++ ⟨#[120]⟩) = 6 := by rw [hY2]; exact readE_x hB hTs hBs
  have g4 := readE_kind x hx256 B1 b1s (by rw [hB1]; exact zero_tail hB hTs)
  have g0 : readE Y0 = if n = 0 then 0 else 5 := by
    by_cases hn0 : n = 0
    · rw [if_pos hn0, hY0, hn0]
      have hz : B ++ zeroB 0 = B := by
        apply ByteArray.ext
        apply Array.toList_inj.1
        rw [cat_list, zeroB_list]
        simp
      rw [hz]
      have := read_lay hvT
      rw [← hB] at this
      unfold readV at this
      rw [if_neg (by omega)] at this
      unfold readE
      rw [if_neg (by omega)]
      by_cases hr : readOk B = true
      · rw [if_pos hr]
      · rw [if_neg hr] at this
        injection this with h1
        injection h1 with h1
        simp at h1
    · rw [if_neg hn0]
      exact if_pos (by omega)
  rw [g2] at e2
  rw [g3] at e3
  obtain ⟨v0, hv0⟩ : ∃ v, v = readE Y0 := ⟨_, rfl⟩
  obtain ⟨v4, hv4⟩ : ∃ v, v = readE (⟨#[x.toUInt8]⟩ ++ B1) := ⟨_, rfl⟩
  rw [← hv0] at e0 g0
  rw [← hv4] at e4 g4
  have H0 : Hid (∀ w1, Calls Tryd.prog 7 #[.string Y0] w1 fun e w' => e = .returned (.tuple #[.agg #[.int .i64 k0, .string s0], .int .i64 v0]) ∧ Below w1.heap.size w1 w') := Lib.hid (fun w1 => by rw [← e0]; exact read_any6 Y0 w1 (by omega))
  have H2 : Hid (∀ w1, Calls Tryd.prog 7 #[.string Y2] w1 fun e w' => e = .returned (.tuple #[.agg #[.int .i64 k2, .string s2], .int .i64 5]) ∧ Below w1.heap.size w1 w') := Lib.hid (fun w1 => by rw [← e2]; exact read_any6 Y2 w1 (by omega))
  have H3 : Hid (∀ w1, Calls Tryd.prog 7 #[.string (Y2 ++ ⟨#[120]⟩)] w1 fun e w' => e = .returned (.tuple #[.agg #[.int .i64 k3, .string s3], .int .i64 6]) ∧ Below w1.heap.size w1 w') := Lib.hid (fun w1 => by rw [← e3]; exact read_any6 _ w1 (by rw [ByteArray.size_append, y2s]; decide))
  have H4 : Hid (∀ w1, Calls Tryd.prog 7 #[.string ((⟨#[x.toUInt8]⟩ : ByteArray) ++ B1)] w1 fun e w' => e = .returned (.tuple #[.agg #[.int .i64 k4, .string s4], .int .i64 v4]) ∧ Below w1.heap.size w1 w') := Lib.hid (fun w1 => by rw [← e4]; exact read_any6 _ w1 (by rw [ByteArray.size_append, b1s]; show 1 + 32 ≤ 140737488351232; omega))
  have HC0 : Hid ((n = 0 ∧ v0 = 0) ∨ (n ≠ 0 ∧ v0 = 5)) := Lib.hid (by
    by_cases h : n = 0
    · exact .inl ⟨h, by rw [g0, if_pos h]⟩
    · exact .inr ⟨h, by rw [g0, if_neg h]⟩)
  have HC4 : Hid ((x = 1 ∧ v4 = 0) ∨ (x = 2 ∧ v4 = 0) ∨ (x ≠ 1 ∧ x ≠ 2 ∧ v4 = 6)) := Lib.hid (by
    by_cases h1 : x = 1
    · exact .inl ⟨h1, by rw [g4, if_pos (.inl h1)]⟩
    · by_cases h2 : x = 2
      · exact .inr (.inl ⟨h2, by rw [g4, if_pos (.inr h2)]⟩)
      · exact .inr (.inr ⟨h1, h2, by rw [g4, if_neg (by omega)]⟩))
  have HE0 : Hid (B ++ zeroB n = Y0) := Lib.hid hY0.symm
  have HE1 : Hid (B.extract 1 B.size = B1) := Lib.hid (by rw [hBs]; exact hB1.symm)
  have HE2 : Hid (B.extract 0 32 = Y2) := Lib.hid hY2.symm
  have HKX : Hid (IntKind.u8.wrap kind = (x : Int)) := Lib.hid (by show IntKind.u8.wrap kind = _; rw [IntKind.wrap_u8']; exact hxI)
  have HX256 := Lib.hid hx256
  have HLN : Hid (¬ 9223372036854775807 < (ByteArray.mk #[x.toUInt8]).size + B1.size) := Lib.hid (by rw [b1s]; show ¬ 9223372036854775807 < 1 + 32; omega)
  have HL1 : Hid (1 + B1.size ≤ 9223372036854775807) := Lib.hid (by omega)
  have HMO := Lib.hid hmo
  have HS0 : Hid (¬ 9223372036854775807 < B.size + (zeroB n).size) := Lib.hid (by rw [zeroB_size, hBs]; omega)
  have HS3 : Hid (¬ 9223372036854775807 < Y2.size + (ByteArray.mk #[120]).size) := Lib.hid (by rw [y2s]; show ¬ 9223372036854775807 < 32 + 1; omega)
  have m0 : ¬ mo < 0 := by omega
  have m1 : ¬ 60 < mo := by omega
  clear hT hvT hTs hB hBs hY0 hY2 hB1 hx hxI e0 e2 e3 e4 g0 g2 g3 g4 hv0 hv4 y0s y2s b1s hx256 hz1 hmo
  go_enter Tryd.func3, Tryd.ntmps3
  go_wp2_with fail
  refine (alive6_any _).mono ?_
  rintro e w1 ⟨rfl, hb1⟩
  go_wp2_with fail
  refine (HO.out _ _ (txts_at _ _ _ _ rfl rfl)).mono ?_
  rintro e w2 ⟨rfl, hb2⟩
  have k2' : Below w.heap.size w w2 := (hb1.alloc hb1.size _).trans (hb2.mono (by have := hb1.size; simp; omega))
  clear hb1 hb2
  go_wp2_with fail
  refine (HL.out _).mono ?_
  rintro e w3 ⟨rfl, hb3⟩
  have k3' : Below w.heap.size w w3 := (k2'.alloc k2'.size _).trans (hb3.mono (by have := k2'.size; simp; omega))
  clear hb3 k2'
  have hBI := HBI.out
  go_upto_region 7 with fail
  have hmk := zeros_make w3 n (by omega)
  have hcv := zeros_convert w3 n
  rw [← HMO.out] at hmk
  have hE0 := HE0.out
  have hS0 := HS0.out
  go_wp2_with fail
  clear hmk hcv hE0 hS0
  refine (H0.out _).mono ?_
  rintro e w4 ⟨rfl, hb4⟩
  have k4' : Below w.heap.size w w4 := (k3'.alloc k3'.size _).trans (hb4.mono (by have := k3'.size; simp; omega))
  clear hb4 k3'
  have hE2 := HE2.out
  go_wp2_with fail
  refine (H2.out _).mono ?_
  rintro e w5 ⟨rfl, hb5⟩
  have k5' : Below w.heap.size w w5 := (k4'.alloc k4'.size _).trans (hb5.mono (by have := k4'.size; simp; omega))
  clear hb5 k4'
  have hS3 := HS3.out
  go_wp2_with fail
  refine (H3.out _).mono ?_
  rintro e w6 ⟨rfl, hb6⟩
  have k6' : Below w.heap.size w (w6.alloc (.cells #[.int .i64 k3, .string s3] 24)) := ((k5'.alloc k5'.size _).trans (hb6.mono (by have := k5'.size; simp; omega))).alloc (by have := k5'.size; have := hb6.size; simp at this; omega) _
  clear hb6 k5' hS3 hE2 hBI
  go_upto_region 10 with fail
  obtain ⟨W0, hW0⟩ : ∃ W0, W0 = w6.alloc (.cells #[.int .i64 k3, .string s3] 24) := ⟨_, rfl⟩
  rw [← hW0] at k6'
  rw [← hW0]
  clear hW0
  have HK6 := Lib.hid k6'
  clear k6'
  refine wp_region_chain_at 24 (fun w w' => w.grownBy w' none) 14 mnD 2 mnC (mnF kind x B B1 s4 k4 v4) (mnCh W0) (by kernel_rfl) (by kernel_rfl) rfl mnD_inj mnD_lt mnC_lt mnC_inj ?hcw mnF_kept mnCh_kept ?hG ?h0 ?hloose ?hchain ?hK
  case hcw =>
    intro n hn
    obtain rfl : n = 0 := by omega
    exact of_decide_eq_true (by kernel_rfl)
  case hG => intro w w' h; exact GrownT.of_none h
  case h0 => exact below_drew (Below.refl _ _)
  case hloose =>
    intro i hi hn y w2 hf hw hch
    obtain ⟨nn, vv, _, hcc⟩ := hch
    have hbe := mnCh_below hcc
    clear hcc
    rcases (show i = 0 ∨ i = 1 ∨ i = 2 ∨ i = 3 ∨ i = 4 ∨ i = 5 ∨ i = 6 ∨ i = 7 ∨ i = 8 ∨ i = 9 ∨ i = 10 ∨ i = 11 ∨ i = 12 ∨ i = 13 by omega) with rfl | rfl | rfl | rfl | rfl | rfl | rfl | rfl | rfl | rfl | rfl | rfl | rfl | rfl
    · have e1 : y.tmps[2]?.getD undef = .int .i64 kind := by rw [hf.2.2 2 (by decide)]; rfl
      clear hf hw hn hbe
      refine wpOp_value (v := .int .i64 kind) (w' := w2) rfl rfl ?_ ⟨_, rfl, (fun h => by cases h), by_refl _ _, rfl⟩
      go_simp
    · have hkx := HKX.out
      have e1 : y.tmps[81]?.getD undef = .int .i64 kind := hw 0 (of_decide_eq_true (by kernel_rfl))
      clear hf hw hn hbe
      refine wpOp_value (v := .int .u8 (x : Int)) (w' := w2) rfl rfl ?_ ⟨_, rfl, (fun h => by cases h), by_refl _ _, rfl⟩
      go_simp
    · have e1 : y.tmps[82]?.getD undef = .int .u8 (x : Int) := hw 1 (of_decide_eq_true (by kernel_rfl))
      clear hf hw hn hbe
      refine wpOp_value (v := .slice (some ⟨w2.heap.size, 0, none⟩) 1 1) (w' := w2.alloc (.cells #[.int .u8 (x : Int)] 5)) rfl rfl ?_ ⟨_, rfl, (fun h => by cases h), by_alloc (by_refl _ _) _, ⟨_, rfl, Blk.new _ _ _⟩⟩
      go_simp
    · obtain ⟨b', e1, hbk⟩ : ∃ b', y.tmps[83]?.getD undef = .slice (some ⟨b', 0, none⟩) 1 1 ∧ Blk w2 b' 5 #[.int .u8 (x : Int)] := hw 2 (of_decide_eq_true (by kernel_rfl))
      have hcv := one_byte w2 b' x HX256.out hbk
      clear hf hw hn hbe hbk
      refine wpOp_value (v := .string ⟨#[x.toUInt8]⟩) (w' := w2) rfl rfl ?_ ⟨_, rfl, (fun h => by cases h), by_refl _ _, rfl⟩
      go_simp
    · have e1 : y.tmps[9]?.getD undef = .string B := by rw [hf.2.2 9 (by decide)]; rfl
      clear hf hw hn hbe
      refine wpOp_value (v := .string B) (w' := w2) rfl rfl ?_ ⟨_, rfl, (fun h => by cases h), by_refl _ _, rfl⟩
      go_simp
    · have hE := HE1.out
      have hBI := HBI.out
      have e1 : y.tmps[85]?.getD undef = .string B := hw 4 (of_decide_eq_true (by kernel_rfl))
      clear hf hw hn hbe
      refine wpOp_value (v := .string B1) (w' := w2) rfl rfl ?_ ⟨_, rfl, (fun h => by cases h), by_refl _ _, rfl⟩
      go_simp
    · have hl := HLN.out
      have hl1 := HL1.out
      have e1 : y.tmps[84]?.getD undef = .string ⟨#[x.toUInt8]⟩ := hw 3 (of_decide_eq_true (by kernel_rfl))
      have e2 : y.tmps[86]?.getD undef = .string B1 := hw 5 (of_decide_eq_true (by kernel_rfl))
      clear hf hw hn hbe
      refine wpOp_value (v := .string ((⟨#[x.toUInt8]⟩ : ByteArray) ++ B1)) (w' := w2) rfl rfl ?_ ⟨_, rfl, (fun h => by cases h), by_refl _ _, rfl⟩
      go_simp
    · have e1 : y.tmps[87]?.getD undef = .string ((⟨#[x.toUInt8]⟩ : ByteArray) ++ B1) := hw 6 (of_decide_eq_true (by kernel_rfl))
      clear hf hw hn
      refine wpOp_call (f := 7) (args := #[.string ((⟨#[x.toUInt8]⟩ : ByteArray) ++ B1)]) rfl rfl (by go_simp) ((H4.out w2).mono ?_)
      rintro e w3 ⟨rfl, hb3⟩
      exact ⟨_, rfl, _, rfl, (fun h => by cases h), by_below hb3 (Nat.le_refl _), rfl⟩
    · have e1 : y.tmps[88]?.getD undef = .tuple #[.agg #[.int .i64 k4, .string s4], .int .i64 v4] := hw 7 (of_decide_eq_true (by kernel_rfl))
      clear hf hw hn hbe
      refine wpOp_value (v := .tuple #[.agg #[.int .i64 k4, .string s4], .int .i64 v4]) (w' := w2) rfl rfl ?_ ⟨_, rfl, (fun h => by cases h), by_refl _ _, rfl⟩
      go_simp
    · have e1 : y.tmps[80]?.getD undef = .tuple #[.agg #[.int .i64 k4, .string s4], .int .i64 v4] := hw 8 (of_decide_eq_true (by kernel_rfl))
      clear hf hw hn hbe
      refine wpOp_value (v := .agg #[.int .i64 k4, .string s4]) (w' := w2) rfl rfl ?_ ⟨_, rfl, (fun h => by cases h), by_refl _ _, rfl⟩
      go_simp
    · have e1 : y.tmps[80]?.getD undef = .tuple #[.agg #[.int .i64 k4, .string s4], .int .i64 v4] := hw 8 (of_decide_eq_true (by kernel_rfl))
      clear hf hw hn hbe
      refine wpOp_value (v := .int .i64 v4) (w' := w2) rfl rfl ?_ ⟨_, rfl, (fun h => by cases h), by_refl _ _, rfl⟩
      go_simp
    · exact absurd rfl (hn 0 (by omega))
    · exact absurd rfl (hn 1 (by omega))
    · have e1 : y.tmps[90]?.getD undef = .int .i64 v4 := hw 10 (of_decide_eq_true (by kernel_rfl))
      clear hf hw hn hbe
      refine wpOp_value (v := .int .i64 v4) (w' := w2) rfl rfl ?_ ⟨_, rfl, (fun h => by cases h), by_refl _ _, rfl⟩
      go_simp
  case hchain =>
    intro n hn y w2 hf hw hch
    rcases (show n = 0 ∨ n = 1 by omega) with rfl | rfl
    · have hbe : Below W0.heap.size W0 w2 := hch
      clear hf hw hch
      change wpOp _ _ _ 11 _ _ _
      refine wpOp_value (v := .pointer (some ⟨w2.heap.size, 0, none⟩)) (w' := w2.alloc (.cells #[.int .i64 0, .string ⟨#[]⟩] 24)) rfl rfl ?_ ⟨_, rfl, (fun h => by cases h), GrownT.of_none (by_alloc (by_refl _ _) _), ⟨hbe.alloc hbe.size _, _, rfl, hbe.size, Blk.new w2 _ _⟩, trivial⟩
      go_simp
    · obtain ⟨hbe, g, hg, hgW, bk⟩ := hch
      have e1 : y.tmps[17]?.getD undef = .pointer (some ⟨g, 0, none⟩) := hg
      have e2 : y.tmps[89]?.getD undef = .agg #[.int .i64 k4, .string s4] := hw 9 (of_decide_eq_true (by kernel_rfl))
      have c0 := bk.cell 0
      have c1 := bk.cell 1
      have f0 := bk.frozen 0
      have f1 := bk.frozen 1
      simp at c0 c1
      clear hf hw hg
      change wpOp _ _ _ 12 _ _ _
      refine wpOp_skip (w' := (w2.setCell ⟨g, 0, none⟩ (.int .i64 k4)).setCell ⟨g, 1, none⟩ (.string s4)) rfl rfl ?_ ⟨undef, rfl, (fun _ => rfl), GrownT.of_by (by_put (by_put (by_refl _ _) 0 _) 1 _) bk, (hbe.setCell hgW _).setCell hgW _, trivial⟩
      go_simp
  case hK =>
    intro y w7 hf hv hch
    obtain ⟨_, hch⟩ := hch
    have hbe : Below W0.heap.size W0 w7 := hch
    have ej : slotOf y (mnD 13) = .int .i64 v4 := hv 13 (by omega)
    obtain ⟨u, hu, rfl⟩ := hf.lit
    have ej : u 13 = .int .i64 v4 := (hu 13).trans ej
    clear hf hv hu
    simp only [List.range, List.range.loop, List.foldl, mnD, putD, List.getD_cons_zero, List.getD_cons_succ, List.setIfInBounds_toArray, List.set_cons_succ, List.set_cons_zero, ej]
    have hkx := HKX.out
    go_upto_region 12 with fail
    have hx256 := HX256.out
    rcases HC0.out with ⟨hn0, rfl⟩ | ⟨hn0, rfl⟩ <;> rcases HC4.out with ⟨rfl, rfl⟩ | ⟨rfl, rfl⟩ | ⟨h1, h2, rfl⟩
    all_goals clear HO HL H0 H2 H3 H4 HC0 HC4 HE0 HE1 HE2 HKX HX256 HLN HS0 HS3
    · subst hn0
      obtain rfl : mo = 0 := by simpa using HMO.out
      clear HMO
      go_wp2_with fail
      go_ret
      exact ⟨rfl, HK6.out.trans (hbe.mono HK6.out.size)⟩
    · subst hn0
      obtain rfl : mo = 0 := by simpa using HMO.out
      clear HMO
      go_wp2_with fail
      go_ret
      exact ⟨rfl, HK6.out.trans (hbe.mono HK6.out.size)⟩
    · subst hn0
      obtain rfl : mo = 0 := by simpa using HMO.out
      have e1 : ((x : Int) == 1) = false := beq_eq_false_iff_ne.2 (by omega)
      have e2 : ((x : Int) == 2) = false := beq_eq_false_iff_ne.2 (by omega)
      clear HMO h1 h2
      go_wp2_with fail
      go_ret
      exact ⟨rfl, HK6.out.trans (hbe.mono HK6.out.size)⟩
    · have hm : (mo == 0) = false := beq_eq_false_iff_ne.2 (by have := HMO.out; omega)
      clear HMO
      go_wp2_with fail
      go_ret
      exact ⟨rfl, HK6.out.trans (hbe.mono HK6.out.size)⟩
    · have hm : (mo == 0) = false := beq_eq_false_iff_ne.2 (by have := HMO.out; omega)
      clear HMO
      go_wp2_with fail
      go_ret
      exact ⟨rfl, HK6.out.trans (hbe.mono HK6.out.size)⟩
    · have hm : (mo == 0) = false := beq_eq_false_iff_ne.2 (by have := HMO.out; omega)
      have e1 : ((x : Int) == 1) = false := beq_eq_false_iff_ne.2 (by omega)
      have e2 : ((x : Int) == 2) = false := beq_eq_false_iff_ne.2 (by omega)
      clear HMO h1 h2
      go_wp2_with fail
      go_ret
      exact ⟨rfl, HK6.out.trans (hbe.mono HK6.out.size)⟩
set_option maxRecDepth 100000 in
set_option maxHeartbeats 2000000 in
theorem mnone_out (s : ByteArray) (mo kind : Int) (w : World) (h : 200 < s.size ∨ mo < 0 ∨ 60 < mo) :
    Calls Tryd.prog 3 #[.string s, .int .i64 mo, .int .i64 kind] w fun e w' => e = .returned (.bool true) ∧ Below w.heap.size w w' := by
  by_cases h1 : 200 < s.size
  · go_enter Tryd.func3, Tryd.ntmps3
    go_wp2_with fail
    refine (alive6_any _).mono ?_
    rintro e w1 ⟨rfl, hb1⟩
    go_wp2_with fail
    go_ret
    exact ⟨rfl, hb1⟩
  · by_cases h2 : mo < 0
    · go_enter Tryd.func3, Tryd.ntmps3
      go_wp2_with fail
      refine (alive6_any _).mono ?_
      rintro e w1 ⟨rfl, hb1⟩
      go_wp2_with fail
      go_ret
      exact ⟨rfl, hb1⟩
    · have h3 : 60 < mo := by omega
      clear h
      go_enter Tryd.func3, Tryd.ntmps3
      go_wp2_with fail
      refine (alive6_any _).mono ?_
      rintro e w1 ⟨rfl, hb1⟩
      go_wp2_with fail
      go_ret
      exact ⟨rfl, hb1⟩
theorem mnone_any (s : ByteArray) (mo kind : Int) (w : World) (_hs : s.size ≤ 140737488351232) (_hm : -9223372036854775808 ≤ mo ∧ mo ≤ 9223372036854775807) (_hk : -9223372036854775808 ≤ kind ∧ kind ≤ 9223372036854775807) :
    Calls Tryd.prog 3 #[.string s, .int .i64 mo, .int .i64 kind] w fun e w' => e = .returned (.bool true) ∧ Below w.heap.size w w' := by
  by_cases h : s.size ≤ 200 ∧ 0 ≤ mo ∧ mo ≤ 60
  · exact mnone_in s mo.toNat mo kind (by omega) w h.1 (by omega)
  · exact mnone_out s mo kind w (by omega)
end Go.Proofs.YtokddfbjjghpkaaDoor
