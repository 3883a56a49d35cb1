/-
  SplitAgain, walked. No statement is proved here.
-/
import Derived.Test.YtkcjiogackkecaaSplitFewWalk
import Derived.Test.YtkcjiogackkecaaFixedTellsMid
import Derived.BigQuiet
namespace Go.Proofs.Ytkcjiogackkecaa
open Go.RowKit

set_option maxRecDepth 100000 in
set_option maxHeartbeats 2000000 in
theorem sagain_out (gen : Int) (s W : ByteArray) (a c : Int) (_hs : s.size ≤ 140737488351232) (_hw : W.size ≤ 140737488351232) (w : World) (h : 1000 < s.size ∨ 400 < W.size ∨ gen < 1 ∨ 3 < gen) :
    Calls Try.prog 4 #[.int .i64 gen, .string s, .string W, .int .i64 a, .int .i64 c] w fun e w' => e = .returned (.bool true) ∧ Below w.heap.size w w' := by
  by_cases h0 : 1000 < s.size
  · clear h
    go_enter Try.func4, Try.ntmps4
    go_wp2_with fail
    refine (alive15_any _).mono ?_
    rintro e w1 ⟨rfl, hb1⟩
    go_wp2_with fail
    go_ret
    exact ⟨rfl, hb1⟩
  have n0 : s.size ≤ 1000 := by omega
  by_cases h1 : 400 < W.size
  · clear h h0
    go_enter Try.func4, Try.ntmps4
    go_wp2_with fail
    refine (alive15_any _).mono ?_
    rintro e w1 ⟨rfl, hb1⟩
    go_wp2_with fail
    go_ret
    exact ⟨rfl, hb1⟩
  have n1 : W.size ≤ 400 := by omega
  by_cases h2 : gen < 1
  · clear h h0 h1
    go_enter Try.func4, Try.ntmps4
    go_wp2_with fail
    refine (alive15_any _).mono ?_
    rintro e w1 ⟨rfl, hb1⟩
    go_wp2_with fail
    go_ret
    exact ⟨rfl, hb1⟩
  have n2 : 1 ≤ gen := by omega
  have h3 : 3 < gen := by omega
  clear h h0 h1 h2
  go_enter Try.func4, Try.ntmps4
  go_wp2_with fail
  refine (alive15_any _).mono ?_
  rintro e w1 ⟨rfl, hb1⟩
  go_wp2_with fail
  go_ret
  exact ⟨rfl, hb1⟩
set_option maxRecDepth 100000 in
set_option maxHeartbeats 4000000 in
theorem sagain_out2 (gen : Int) (s W : ByteArray) (a c : Int) (w : World) (n0 : s.size ≤ 1000) (n1 : W.size ≤ 400) (n2 : 1 ≤ gen) (n3 : gen ≤ 3) (h : a < 0 ∨ (s.size : Int) < a ∨ c < 0 ∨ (s.size : Int) - a < c) :
    Calls Try.prog 4 #[.int .i64 gen, .string s, .string W, .int .i64 a, .int .i64 c] w fun e w' => e = .returned (.bool true) ∧ Below w.heap.size w w' := by
  by_cases g0 : a < 0
  · clear h
    go_enter Try.func4, Try.ntmps4
    go_wp2_with fail
    refine (alive15_any _).mono ?_
    rintro e w1 ⟨rfl, hb1⟩
    go_wp2_with fail
    go_ret
    exact ⟨rfl, hb1⟩
  have k0 : 0 ≤ a := by omega
  by_cases g1 : (s.size : Int) < a
  · clear h g0
    go_enter Try.func4, Try.ntmps4
    go_wp2_with fail
    refine (alive15_any _).mono ?_
    rintro e w1 ⟨rfl, hb1⟩
    go_wp2_with fail
    go_ret
    exact ⟨rfl, hb1⟩
  have k1 : a ≤ (s.size : Int) := by omega
  by_cases g2 : c < 0
  · clear h g0 g1
    go_enter Try.func4, Try.ntmps4
    go_wp2_with fail
    refine (alive15_any _).mono ?_
    rintro e w1 ⟨rfl, hb1⟩
    go_wp2_with fail
    go_ret
    exact ⟨rfl, hb1⟩
  have k2 : 0 ≤ c := by omega
  have g3 : (s.size : Int) - a < c := by omega
  clear h g0 g1 g2
  go_enter Try.func4, Try.ntmps4
  go_wp2_with fail
  refine (alive15_any _).mono ?_
  rintro e w1 ⟨rfl, hb1⟩
  go_wp2_with fail
  go_ret
  exact ⟨rfl, hb1⟩

set_option maxRecDepth 100000 in
set_option maxHeartbeats 8000000 in
theorem sagain_in (gen : Int) (s W : ByteArray) (F C : Nat) (w : World) (h1 : s.size ≤ 1000) (h2 : W.size ≤ 400) (h4 : 1 ≤ gen) (h5 : gen ≤ 3) (hFC : F + C ≤ s.size) :
    Calls Try.prog 4 #[.int .i64 gen, .string s, .string W, .int .i64 (F : Int), .int .i64 (C : Int)] w fun e w' => e = .returned (.bool true) ∧ Below w.heap.size w w' := by
  obtain ⟨T, x, fN, fC, rN, rC, hV, K⟩ := cutter_of (gen := gen) ⟨h4, h5⟩
  have HOF := Lib.hid (of_in (gen := gen) ⟨h4, h5⟩ hV)
  have hq1 : ∀ (w : World), (binOp .eql 29 (.iface T x) .nilIface).run Try.prog w = .ok (.bool false) w := fun w => by rfl
  obtain ⟨R, hR⟩ : ∃ R, R = ruleOf gen := ⟨_, rfl⟩
  rw [← hR] at K
  have hsl : s.data.toList.length = s.size := (Lib.size_eq s).symm
  obtain ⟨old, hold⟩ : ∃ old, old = cutL R 0 s.data.toList := ⟨_, rfl⟩
  obtain ⟨m, hm⟩ : ∃ m, m = old.length := ⟨_, rfl⟩
  have hml : m ≤ 1000 := by rw [hm, hold]; have := cutL_few R 0 s.data.toList; omega
  obtain ⟨D, hD⟩ : ∃ D : ByteArray, D = s.extract 0 F ++ W ++ s.extract (F + C) s.size := ⟨_, rfl⟩
  have hDl : D.data.toList = s.data.toList.take F ++ W.data.toList ++ s.data.toList.drop (F + C) := by
    rw [hD, ByteArray.data_append, Array.toList_append, ByteArray.data_append, Array.toList_append, extract_list, List.drop_zero, extract_drop]
  have hDz : D.size ≤ 1400 := by
    rw [Lib.size_eq, hDl, List.length_append, List.length_append, List.length_take, List.length_drop, ← Lib.size_eq, ← Lib.size_eq]
    omega
  obtain ⟨new, hnew⟩ : ∃ new, new = cutL R 0 D.data.toList := ⟨_, rfl⟩
  obtain ⟨k, hk⟩ : ∃ k, k = new.length := ⟨_, rfl⟩
  have hkl : k ≤ 1400 := by rw [hk, hnew]; have h := cutL_few R 0 D.data.toList; rw [← Lib.size_eq] at h; omega
  obtain ⟨M, hM⟩ : ∃ M, M = againL R old D.data.toList (F : Int) ((F : Int) + (W.size : Int)) ((W.size : Int) - (C : Int)) := ⟨_, rfl⟩
  have hM1 : M.1 = new := by
    have h := again_edit K.ok s.data.toList W.data.toList F C (by omega)
    rw [← hDl, show ((F + W.data.toList.length : Nat) : Int) = (F : Int) + (W.size : Int) by rw [← Lib.size_eq]; omega, ← Lib.size_eq, ← hold, ← hnew] at h
    rw [hM]
    exact h
  have hM2 : M.2 ≤ k := by
    have h := again_few R old D.data.toList (F : Int) ((F : Int) + (W.size : Int)) ((W.size : Int) - (C : Int))
    rw [← hM, hM1, ← hk] at h
    exact h
  obtain ⟨N, hN⟩ : ∃ N, N = M.2 := ⟨_, rfl⟩
  rw [← hN] at hM2
  have HRC : Hid (∀ w', Calls Try.prog 13 #[.int .i64 gen, .string s] w' fun e w'' => ∃ p c, e = .returned (.slice p m c) ∧ w''.ownsRow w'.heap.size 36 2 (.slice p m c) m (flatS old) ∧ Below w'.heap.size w' w'') := Lib.hid (fun w' => by
    have h := refcut_any gen s w' (by omega)
    rw [← hR, ← hold, ← hm] at h
    exact h)
  have HRD : Hid (∀ w', Calls Try.prog 13 #[.int .i64 gen, .string D] w' fun e w'' => ∃ p c, e = .returned (.slice p k c) ∧ w''.ownsRow w'.heap.size 36 2 (.slice p k c) k (flatS new) ∧ Below w'.heap.size w' w'') := Lib.hid (fun w' => by
    have h := refcut_any gen D w' (by omega)
    rw [← hR, ← hnew, ← hk] at h
    exact h)
  have HAG : Hid (∀ (w' : World) (B g cap : Nat), LentS w' B g cap old → Calls Try.prog 25 #[.iface T x, .slice (some ⟨g, 0, none⟩) m cap, .string D, .int .i64 (F : Int), .int .i64 ((F : Int) + (W.size : Int)), .int .i64 ((W.size : Int) - (C : Int))] w' fun e w'' => ∃ q d, e = .returned (.tuple #[.slice q k d, .int .i64 (N : Int)]) ∧ w''.ownsRow w'.heap.size 36 2 (.slice q k d) k (flatS new) ∧ Below w'.heap.size w' w'') := Lib.hid (fun w' B g cap hl => by
    have h := again_any K (some ⟨g, 0, none⟩) m cap old D (F : Int) ((F : Int) + (W.size : Int)) ((W.size : Int) - (C : Int)) w' hm.symm hl.spans (by omega) (by have := hl.2.2.1; rw [← hm] at this; omega) (fun e => by cases e) (by omega) (by omega) (by omega) (by omega) (fun z hz => by
      rw [hold] at hz
      obtain ⟨j, hj⟩ := List.getElem?_of_mem hz
      have := cutL_int (x0 := z.1) (x1 := z.2) hj
      omega)
    rw [← hM, hM1, ← hN, ← hk] at h
    exact h)
  have HM := Lib.hid hm
  have HK := Lib.hid hk
  have HD := Lib.hid hD
  have hFI : (F : Int) ≤ (s.size : Int) := by omega
  have hCI : (C : Int) ≤ (s.size : Int) - (F : Int) := by omega
  have hFCI : (F : Int) + (C : Int) ≤ (s.size : Int) := by omega
  have hFS : F ≤ s.size := by omega
  clear hV hR hsl hold hm hD hDl hnew hk hM hM1 hN K
  go_enter Try.func4, Try.ntmps4
  go_wp2_with fail
  refine (alive15_any _).mono ?_
  rintro e w1 ⟨rfl, hb1⟩
  have HB1 := Lib.hid hb1
  clear hb1
  go_wp2_with fail
  refine (HOF.out _).mono ?_
  rintro e w2 ⟨rfl, hb2⟩
  have HB2 := Lib.hid (HB1.out.trans (hb2.mono HB1.out.size))
  clear hb2
  go_wp2_with fail
  refine (HRC.out _).mono ?_
  rintro e w3 ⟨p3, c3, rfl, hr3, hb3⟩
  have HB3 := Lib.hid (HB2.out.trans (hb3.mono HB2.out.size))
  have HR3 := Lib.hid hr3
  clear hr3 hb3
  go_upto_region 9 with fail
  go_quiet (fail)
  rw [← HD.out]
  obtain ⟨w4, hw4⟩ : ∃ w4, w4 = w3.drewN nq := ⟨_, rfl⟩
  have hb34 : Below w3.heap.size w3 w4 := by rw [hw4]; exact below_dn _ _
  have HB4 := Lib.hid (HB3.out.trans (hb34.mono HB3.out.size))
  have hr4 := row_below HR3.out hb34
  have HS4 : Hid (Spans w4 w4.heap.size p3 old) := Lib.hid (row_spans (by rw [← HM.out]; exact hr4))
  have hc0 : p3 = none → c3 = 0 := fun e => by
    subst e
    rcases hr4.2 with ⟨h3, _⟩ | ⟨g', c', cur, h3, _⟩
    · injection h3 with _ h6 h7
    · cases h3
  have HLT := Lib.hid (slent_any p3 m c3 old w4 HM.out.symm HS4.out (by omega) hc0)
  rw [← hw4]
  clear hr4 hc0 hw4 hb34
  go_wp2_with fail
  refine HLT.out.mono ?_
  rintro e w5 ⟨g5, cap5, rfl, hl5, hb5⟩
  have HB5 := Lib.hid (HB4.out.trans (hb5.mono HB4.out.size))
  have HB45 := Lib.hid hb5
  have HL5 := Lib.hid hl5
  have HAG5 := Lib.hid (HAG.out w5 _ g5 cap5 hl5)
  clear hl5 hb5
  go_wp2_with fail
  refine HAG5.out.mono ?_
  rintro e w6 ⟨q6, c6, rfl, hr6, hb6⟩
  have HB6 := Lib.hid (HB5.out.trans (hb6.mono HB5.out.size))
  have HB56 := Lib.hid hb6
  have HR6 := Lib.hid hr6
  clear hr6 hb6
  obtain ⟨gb, hgb⟩ : ∃ gb, gb = w6.heap.size := ⟨_, rfl⟩
  obtain ⟨w7, hw7⟩ : ∃ w', w' = w6.alloc (.cells (bookS (.slice none 0 0) (.slice none 0 0)) 61) := ⟨_, rfl⟩
  have HBOOK : Hid (Blk w7 gb 61 (bookS (.slice none 0 0) (.slice none 0 0))) := Lib.hid (by rw [hw7, hgb]; exact Blk.new w6 _ _)
  have hb67 : Below w6.heap.size w6 w7 := by rw [hw7]; exact (Below.refl _ _).alloc (Nat.le_refl _) _
  have HB7 := Lib.hid (HB6.out.trans (hb67.mono HB6.out.size))
  have HB57 := Lib.hid (HB56.out.trans (hb67.mono HB56.out.size))
  have HR7 := Lib.hid (row_below HR6.out hb67)
  have HGB := Lib.hid hgb
  have hv : (LS.mk q6 c6 new).val = .slice q6 k c6 := by unfold LS.val; rw [← HK.out]
  have HADD : Hid (Calls Try.prog 26 #[.pointer (some ⟨gb, 0, none⟩), .slice q6 k c6] w7 fun e w' => e = .returned (.tuple #[]) ∧ SpansAt w5.heap.size gb 1 [⟨q6, c6, new⟩] w' ∧ Below w5.heap.size w7 w' ∧ ∀ b, b < w7.heap.size → b ≠ gb → w'.heap[b]? = w7.heap[b]?) := Lib.hid (by
    have h := spans_first (B := w5.heap.size) HBOOK.out (by rw [hgb]; exact HB56.out.size) ⟨q6, c6, new⟩ w5.heap.size (Nat.le_refl _) (by rw [hv]; simp only; rw [← HK.out]; exact HR7.out) (by simp only; rw [← HK.out]; omega)
    rw [hv] at h
    exact h)
  go_upto_region 13 with fail
  rw [show w6.alloc (.cells #[.slice none 0 0, .slice none 0 0, .slice none 0 0, .slice none 0 0, .slice none 0 0, .slice none 0 0, .slice none 0 0, .slice none 0 0, .slice none 0 0, .slice none 0 0, .slice none 0 0, .slice none 0 0, .slice none 0 0, .slice none 0 0, .slice none 0 0, .slice none 0 0] 61) = w7 from hw7.symm, ← hgb]
  clear hv hw7 hgb hb67
  go_wp2_with fail
  refine HADD.out.mono ?_
  rintro e w8 ⟨rfl, hat8, hb8, hsame8⟩
  have HB8 := Lib.hid (HB7.out.trans (hb8.mono HB5.out.size))
  have HB58 := Lib.hid (HB57.out.trans hb8)
  have HAT8 := Lib.hid hat8
  have HR8 : Hid (w8.ownsRow w5.heap.size 36 2 (.slice q6 k c6) k (flatS new)) := Lib.hid (row_kept' HR7.out fun j hj => hsame8 j (HR7.out.lt j hj).2 (fun e => by
    have h := (HR6.out.lt j hj).2
    rw [e, HGB.out] at h
    omega))
  have HL8 : Hid (LentS w8 w4.heap.size g5 cap5 old) := Lib.hid (HL5.out.same HB58.out.size (HB58.out.block g5 HL5.out.2.1))
  have HS8 : Hid (Spans w8 w8.heap.size p3 old) := Lib.hid (by
    have hb48 := HB45.out.trans (HB58.out.mono HB45.out.size)
    exact (HS4.out.below hb48).more hb48.size)
  clear hat8 hb8 hsame8 HADD
  go_wp2_with fail
  refine (HRD.out _).mono ?_
  rintro e w9 ⟨p9, c9, rfl, hr9, hb9⟩
  have HB9 := Lib.hid (HB8.out.trans (hb9.mono HB8.out.size))
  have HAT9 := Lib.hid (HAT8.out.below hb9)
  have HS89 : Hid (Spans w9 w9.heap.size q6 new) := Lib.hid (row_spans (by rw [← HK.out]; exact row_below HR8.out hb9))
  have HS9 : Hid (Spans w9 w9.heap.size p9 new) := Lib.hid (row_spans (by rw [← HK.out]; exact hr9))
  have HL9 := Lib.hid (HL8.out.below hb9)
  have HS9o := Lib.hid ((HS8.out.below hb9).more hb9.size)
  have HSS := Lib.hid (ssame_any q6 p9 k c6 c9 new w9 HK.out.symm HS89.out HS9.out (by omega))
  clear hr9 hb9
  go_wp2_with fail
  refine HSS.out.mono ?_
  rintro e w10 ⟨rfl, n10, rfl⟩
  have HST := Lib.hid (sstays_any g5 cap5 p3 m c3 old w4.heap.size (w9.drewN n10) HM.out.symm (HL9.out.below (below_dn w9 n10)) (HS9o.out.below (below_dn w9 n10)) (by omega))
  have hN0 : decide ((0 : Int) ≤ (N : Int)) = true := decide_eq_true (by omega)
  have hN1 : decide ((N : Int) ≤ (k : Int)) = true := decide_eq_true (by omega)
  go_wp2_with fail
  refine HST.out.mono ?_
  rintro e w11 ⟨rfl, n11, rfl⟩
  have HB11 := Lib.hid (HB9.out.trans ((below_dn w9 (n10 + n11)).mono HB9.out.size))
  have HAP := Lib.hid ((HAT9.out.below (below_dn w9 (n10 + n11))).apart (by omega))
  go_wp2_with fail
  refine HAP.out.mono ?_
  rintro e w12 ⟨rfl, hb12⟩
  have HB12 := Lib.hid (HB11.out.trans (hb12.mono HB5.out.size))
  clear hb12
  go_wp2_with fail
  go_ret
  exact ⟨rfl, HB12.out⟩
theorem sagain_any (gen : Int) (s W : ByteArray) (a c : Int) (w : World) (_hg : -9223372036854775808 ≤ gen ∧ gen ≤ 9223372036854775807) (hs : s.size ≤ 140737488351232) (hW : W.size ≤ 140737488351232) (_ha : -9223372036854775808 ≤ a ∧ a ≤ 9223372036854775807) (_hc : -9223372036854775808 ≤ c ∧ c ≤ 9223372036854775807) :
    Calls Try.prog 4 #[.int .i64 gen, .string s, .string W, .int .i64 a, .int .i64 c] w fun e w' => e = .returned (.bool true) ∧ Below w.heap.size w w' := by
  by_cases h : 1000 < s.size ∨ 400 < W.size ∨ gen < 1 ∨ 3 < gen
  · exact sagain_out gen s W a c hs hW w h
  · by_cases h2 : a < 0 ∨ (s.size : Int) < a ∨ c < 0 ∨ (s.size : Int) - a < c
    · exact sagain_out2 gen s W a c w (by omega) (by omega) (by omega) (by omega) h2
    · obtain ⟨F, rfl⟩ : ∃ F : Nat, a = (F : Int) := ⟨a.toNat, by omega⟩
      obtain ⟨C, rfl⟩ : ∃ C : Nat, c = (C : Int) := ⟨c.toNat, by omega⟩
      exact sagain_in gen s W F C w (by omega) (by omega) (by omega) (by omega) (by omega)
end Go.Proofs.Ytkcjiogackkecaa
