/-
  SplitStays, walked. No statement is proved here.
-/
import Derived.Test.YtkcjiogackkecaaSplitFewWalk
import Derived.BigQuiet
namespace Go.Proofs.Ytkcjiogackkecaa
open Go.RowKit

set_option maxRecDepth 100000 in
set_option maxHeartbeats 2000000 in
theorem sstay_out (gen : Int) (s W : ByteArray) (from' : Int) (_hs : s.size ≤ 140737488351232) (_hw : W.size ≤ 140737488351232) (w : World) (h : 900 < s.size ∨ 200 < W.size ∨ from' < 0 ∨ (s.size : Int) < from' ∨ gen < 1 ∨ 3 < gen) :
    Calls Try.prog 8 #[.int .i64 gen, .string s, .string W, .int .i64 from'] w fun e w' => e = .returned (.bool true) ∧ Below w.heap.size w w' := by
  by_cases h0 : 900 < s.size
  · clear h
    go_enter Try.func8, Try.ntmps8
    go_wp2_with fail
    refine (alive15_any _).mono ?_
    rintro e w1 ⟨rfl, hb1⟩
    go_wp2_with fail
    go_ret
    exact ⟨rfl, hb1⟩
  have n0 : s.size ≤ 900 := by omega
  by_cases h1 : 200 < W.size
  · clear h h0
    go_enter Try.func8, Try.ntmps8
    go_wp2_with fail
    refine (alive15_any _).mono ?_
    rintro e w1 ⟨rfl, hb1⟩
    go_wp2_with fail
    go_ret
    exact ⟨rfl, hb1⟩
  have n1 : W.size ≤ 200 := by omega
  by_cases h2 : from' < 0
  · clear h h0 h1
    go_enter Try.func8, Try.ntmps8
    go_wp2_with fail
    refine (alive15_any _).mono ?_
    rintro e w1 ⟨rfl, hb1⟩
    go_wp2_with fail
    go_ret
    exact ⟨rfl, hb1⟩
  have n2 : 0 ≤ from' := by omega
  by_cases h3 : (s.size : Int) < from'
  · clear h h0 h1 h2
    go_enter Try.func8, Try.ntmps8
    go_wp2_with fail
    refine (alive15_any _).mono ?_
    rintro e w1 ⟨rfl, hb1⟩
    go_wp2_with fail
    go_ret
    exact ⟨rfl, hb1⟩
  have n3 : from' ≤ (s.size : Int) := by omega
  by_cases h4 : gen < 1
  · clear h h0 h1 h2 h3
    go_enter Try.func8, Try.ntmps8
    go_wp2_with fail
    refine (alive15_any _).mono ?_
    rintro e w1 ⟨rfl, hb1⟩
    go_wp2_with fail
    go_ret
    exact ⟨rfl, hb1⟩
  have n4 : 1 ≤ gen := by omega
  have h5 : 3 < gen := by omega
  clear h h0 h1 h2 h3 h4
  go_enter Try.func8, Try.ntmps8
  go_wp2_with fail
  refine (alive15_any _).mono ?_
  rintro e w1 ⟨rfl, hb1⟩
  go_wp2_with fail
  go_ret
  exact ⟨rfl, hb1⟩

set_option maxRecDepth 100000 in
set_option maxHeartbeats 8000000 in
theorem sstay_in (gen : Int) (s W : ByteArray) (a : Nat) (w : World) (h1 : s.size ≤ 900) (h2 : W.size ≤ 200) (h3 : a ≤ s.size) (h4 : 1 ≤ gen) (h5 : gen ≤ 3) :
    Calls Try.prog 8 #[.int .i64 gen, .string s, .string W, .int .i64 (a : Int)] w fun e w' => e = .returned (.bool true) ∧ Below w.heap.size w w' := by
  obtain ⟨T, x, fN, fC, rN, rC, hV, K⟩ := cutter_of (gen := gen) ⟨h4, h5⟩
  have HOF := Lib.hid (of_in (gen := gen) ⟨h4, h5⟩ hV)
  have hq1 : ∀ (w : World), (binOp .eql 29 (.iface T x) .nilIface).run Try.prog w = .ok (.bool false) w := fun w => by rfl
  have hsl : s.data.toList.length = s.size := (Lib.size_eq s).symm
  obtain ⟨R, hR⟩ : ∃ R, R = ruleOf gen := ⟨_, rfl⟩
  rw [← hR] at K
  obtain ⟨old, hold⟩ : ∃ old, old = cutL R 0 s.data.toList := ⟨_, rfl⟩
  have holdl : old.length ≤ 900 := by rw [hold]; have := cutL_few R 0 s.data.toList; omega
  obtain ⟨D, hD⟩ : ∃ D : ByteArray, D = s.extract 0 a ++ W := ⟨_, rfl⟩
  have hDl : D.data.toList = s.data.toList.take a ++ W.data.toList := by
    rw [hD, ByteArray.data_append, Array.toList_append, extract_list, List.drop_zero]
  have hDz : D.size = a + W.size := by rw [Lib.size_eq, hDl, List.length_append, List.length_take, hsl, ← Lib.size_eq]; omega
  obtain ⟨new, hnew⟩ : ∃ new, new = cutL R 0 D.data.toList := ⟨_, rfl⟩
  have hnewl : new.length ≤ 1100 := by rw [hnew]; have := cutL_few R 0 D.data.toList; rw [← Lib.size_eq] at this; omega
  have hint : ∀ z ∈ old, z.2 ≤ 9223372036854775807 := fun z hz => by
    rw [hold] at hz
    obtain ⟨j, hj⟩ := List.getElem?_of_mem hz
    have := cutL_int (x0 := z.1) (x1 := z.2) hj
    omega
  obtain ⟨N, hN⟩ : ∃ N, N = (againL R old s.data.toList (a : Int) (a : Int) 0).2 := ⟨_, rfl⟩
  have hNN : N ≤ 1 := by rw [hN, hold]; exact again_still _ a (by omega)
  have hag0 : againL R old s.data.toList (a : Int) (a : Int) 0 = (old, N) := by
    refine Prod.ext ?_ hN.symm
    have h := again_edit K.ok s.data.toList [] a 0 (by omega)
    rw [List.append_nil, Nat.add_zero, List.take_append_drop, ← hold] at h
    rw [show (old, N).1 = old from rfl]
    exact h
  have hag1 : (againL R old D.data.toList (a : Int) (D.size : Int) ((D.size : Int) - (s.size : Int))).1 = new := by
    have h := again_edit K.ok s.data.toList W.data.toList a (s.size - a) (by omega)
    have e1 : s.data.toList.drop (a + (s.size - a)) = [] := List.drop_eq_nil_of_le (by omega)
    have e2 : ((W.data.toList.length : Int) - ((s.size - a : Nat) : Int)) = (D.size : Int) - (s.size : Int) := by rw [← Lib.size_eq]; omega
    have e3 : ((a + W.data.toList.length : Nat) : Int) = (D.size : Int) := by rw [← Lib.size_eq]; omega
    rw [e1, List.append_nil, ← hDl, e2, e3, ← hold, ← hnew] at h
    exact h
  obtain ⟨M, hM⟩ : ∃ M, M = againL R old D.data.toList (a : Int) (D.size : Int) ((D.size : Int) - (s.size : Int)) := ⟨_, rfl⟩
  rw [← hM] at hag1
  have HAHEAD : Hid (∀ (i : Nat) (z : Int × Int), i + 1 < old.length → old[i]? = some z → z.2 ≤ (a : Int) → new[i]? = some z) := Lib.hid (fun i z hi hz hza => by
    rw [hold] at hi hz
    rw [hnew]
    refine cut_ahead K.ok (a := a) ?_ hz hi hza
    rw [hDl, List.take_append_of_le_length (by rw [List.length_take]; omega), List.take_take, Nat.min_self])
  have HRC : Hid (∀ w', Calls Try.prog 13 #[.int .i64 gen, .string s] w' fun e w'' => ∃ p c, e = .returned (.slice p old.length c) ∧ w''.ownsRow w'.heap.size 36 2 (.slice p old.length c) old.length (flatS old) ∧ Below w'.heap.size w' w'') := Lib.hid (fun w' => by
    have h := refcut_any gen s w' (by omega)
    rw [← hR, ← hold] at h
    exact h)
  have HRD : Hid (∀ w', Calls Try.prog 13 #[.int .i64 gen, .string D] w' fun e w'' => ∃ p c, e = .returned (.slice p new.length c) ∧ w''.ownsRow w'.heap.size 36 2 (.slice p new.length c) new.length (flatS new) ∧ Below w'.heap.size w' w'') := Lib.hid (fun w' => by
    have h := refcut_any gen D w' (by omega)
    rw [← hR, ← hnew] at h
    exact h)
  have HAG : Hid (∀ (w' : World) (p : Option Addr) (c B : Nat), w'.ownsRow B 36 2 (.slice p old.length c) old.length (flatS old) → Calls Try.prog 25 #[.iface T x, .slice p old.length c, .string s, .int .i64 (a : Int), .int .i64 (a : Int), .int .i64 0] w' fun e w'' => ∃ q d, e = .returned (.tuple #[.slice q old.length d, .int .i64 (N : Int)]) ∧ w''.ownsRow w'.heap.size 36 2 (.slice q old.length d) old.length (flatS old) ∧ Below w'.heap.size w' w'') := Lib.hid (fun w' p c B hr => by
    have h := again_row K (l := old) (s := s) (a := (a : Int)) (b := (a : Int)) (g := 0) hr (by omega) (by omega) (by omega) (by omega) (by omega) hint
    rw [hag0] at h
    exact h)
  have HAD : Hid (∀ (w' : World) (p : Option Addr) (c B : Nat), w'.ownsRow B 36 2 (.slice p old.length c) old.length (flatS old) → Calls Try.prog 25 #[.iface T x, .slice p old.length c, .string D, .int .i64 (a : Int), .int .i64 (D.size : Int), .int .i64 ((D.size : Int) - (s.size : Int))] w' fun e w'' => ∃ q d, e = .returned (.tuple #[.slice q new.length d, .int .i64 (M.2 : Int)]) ∧ w''.ownsRow w'.heap.size 36 2 (.slice q new.length d) new.length (flatS new) ∧ Below w'.heap.size w' w'') := Lib.hid (fun w' p c B hr => by
    have h := again_row K (l := old) (s := D) (a := (a : Int)) (b := (D.size : Int)) (g := (D.size : Int) - (s.size : Int)) hr (by omega) (by omega) (by omega) (by omega) (by omega) hint
    rw [← hM, hag1] at h
    exact h)
  have hDI : (D.size : Int) = (a : Int) + (W.size : Int) := by omega
  rw [hDI] at HAD
  have HD := Lib.hid hD
  clear hDI hDz hV hsl hR hold hDl hnew hint hN hag0 hag1 hM K hD
  go_enter Try.func8, Try.ntmps8
  go_wp2_with fail
  refine (alive15_any _).mono ?_
  rintro e w1 ⟨rfl, hb1⟩
  have HB1 := Lib.hid hb1
  clear hb1
  go_wp2_with fail
  refine (HOF.out _).mono ?_
  rintro e w2 ⟨rfl, hb2⟩
  have HB2 := Lib.hid (HB1.out.trans (hb2.mono HB1.out.size))
  clear hb2
  go_wp2_with fail
  refine (HRC.out _).mono ?_
  rintro e w3 ⟨p3, c3, rfl, hr3, hb3⟩
  have HB3 := Lib.hid (HB2.out.trans (hb3.mono HB2.out.size))
  have HR3 := Lib.hid hr3
  have HAG3 := Lib.hid (HAG.out w3 p3 c3 _ hr3)
  clear hr3 hb3
  go_wp2_with fail
  refine HAG3.out.mono ?_
  rintro e w4 ⟨p4, c4, rfl, hr4, hb4⟩
  have HB4 := Lib.hid (HB3.out.trans (hb4.mono HB3.out.size))
  have HR34 := Lib.hid (row_below HR3.out hb4)
  have HSS := Lib.hid (rsame_any p4 p3 old.length c4 c3 old w4 rfl (row_spans hr4) (row_spans HR34.out) (by omega))
  clear hr4 hb4
  go_wp2_with fail
  refine HSS.out.mono ?_
  rintro e w5 ⟨rfl, nn, rfl⟩
  have hN0 : decide ((N : Int) < 0) = false := decide_eq_false (by omega)
  have hN1 : decide ((1 : Int) < (N : Int)) = false := decide_eq_false (by omega)
  have HB5 := Lib.hid (HB4.out.trans ((below_dn w4 nn).mono HB4.out.size))
  have HR5 := Lib.hid (row_below HR34.out (below_dn w4 nn))
  go_wp2_with fail
  rw [← HD.out]
  refine (HAD.out (w4.drewN nn) p3 c3 _ HR5.out).mono ?_
  rintro e w6 ⟨q6, c6, rfl, hr6, hb6⟩
  have HB6 := Lib.hid (HB5.out.trans (hb6.mono HB5.out.size))
  have HS6 := Lib.hid (row_spans hr6)
  have HO6 := Lib.hid (row_spans (row_below HR5.out hb6))
  clear hr6 hb6
  go_wp2_with fail
  go_loopw [17] (fun i wr => ∃ (j n : Nat), j ≤ old.length ∧ i = .int .i64 (j : Int) ∧ wr = w6.drewN n) (fun i _ => old.length - (intOf i).toNat)
  case atStart => exact ⟨0, 0, Nat.zero_le _, rfl, rfl⟩
  case round =>
    obtain ⟨j, n, hjo, rfl, rfl⟩ := hrel
    by_cases hlt : j + 1 < old.length
    · have hjl : j < old.length := by omega
      have hltI : decide ((j : Int) + 1 < (old.length : Int)) = true := decide_eq_true (by omega)
      obtain ⟨x0, x1, hxj⟩ := spans_get (l := old) rfl (by omega : j < old.length)
      obtain ⟨b, off, hA, hbB, hc⟩ := HO6.out (by omega)
      obtain ⟨d0, d1⟩ := hc j _ hxj
      have HXJ := Lib.hid hxj
      clear hxj hc
      subst hA
      simp only at d0 d1
      by_cases hle : x1 ≤ (a : Int)
      · have hd : decide (x1 ≤ (a : Int)) = true := decide_eq_true hle
        have hnew := HAHEAD.out j _ hlt HXJ.out hle
        have hjn : j < new.length := by
          rcases Nat.lt_or_ge j new.length with h | h
          · exact h
          · rw [List.getElem?_eq_none h] at hnew; cases hnew
        obtain ⟨b', off', hA', hbB', hc'⟩ := HS6.out (by omega)
        obtain ⟨d2, d3⟩ := hc' j _ hnew
        clear hc' hnew
        subst hA'
        simp only at d2 d3
        have hge : decide ((new.length : Int) ≤ (j : Int)) = false := decide_eq_false (by omega)
        go_wp2_with fail
        go_quiet (fail)
        go_wp2_with fail
        go_roundw
        case rel => exact ⟨j + 1, _, by omega, by go_num, rfl⟩
        case measure => simp [intOf]; omega
      · have hd : decide (x1 ≤ (a : Int)) = false := decide_eq_false hle
        go_wp2_with fail
        refine (HRD.out _).mono ?_
        rintro e w7 ⟨p7, c7, rfl, hr7, hb7⟩
        have HB7 := Lib.hid (HB6.out.trans (((below_dn w6 n).trans (hb7.mono (Nat.le_refl _))).mono HB6.out.size))
        have HSS2 := Lib.hid (rsame_any q6 p7 new.length c6 c7 new w7 rfl (((HS6.out.below (below_dn w6 n)).below hb7).more hb7.size) (row_spans hr7) (by omega))
        clear hr7 hb7
        go_wp2_with fail
        refine HSS2.out.mono ?_
        rintro e w8 ⟨rfl, n8, rfl⟩
        go_wp2_with fail
        go_ret
        exact ⟨rfl, HB7.out.trans ((below_dn w7 n8).mono HB7.out.size)⟩
    · have hltI : decide ((j : Int) + 1 < (old.length : Int)) = false := decide_eq_false (by omega)
      go_wp2_with fail
      refine (HRD.out _).mono ?_
      rintro e w7 ⟨p7, c7, rfl, hr7, hb7⟩
      have HB7 := Lib.hid (HB6.out.trans (((below_dn w6 n).trans (hb7.mono (Nat.le_refl _))).mono HB6.out.size))
      have HSS2 := Lib.hid (rsame_any q6 p7 new.length c6 c7 new w7 rfl (((HS6.out.below (below_dn w6 n)).below hb7).more hb7.size) (row_spans hr7) (by omega))
      clear hr7 hb7
      go_wp2_with fail
      refine HSS2.out.mono ?_
      rintro e w8 ⟨rfl, n8, rfl⟩
      go_wp2_with fail
      go_ret
      exact ⟨rfl, HB7.out.trans ((below_dn w7 n8).mono HB7.out.size)⟩
theorem sstay_any (gen : Int) (s W : ByteArray) (from' : Int) (w : World) (_hg : -9223372036854775808 ≤ gen ∧ gen ≤ 9223372036854775807) (hs : s.size ≤ 140737488351232) (hW : W.size ≤ 140737488351232) (_hf : -9223372036854775808 ≤ from' ∧ from' ≤ 9223372036854775807) :
    Calls Try.prog 8 #[.int .i64 gen, .string s, .string W, .int .i64 from'] w fun e w' => e = .returned (.bool true) ∧ Below w.heap.size w w' := by
  by_cases h : 900 < s.size ∨ 200 < W.size ∨ from' < 0 ∨ (s.size : Int) < from' ∨ gen < 1 ∨ 3 < gen
  · exact sstay_out gen s W from' hs hW w h
  · obtain ⟨a, rfl⟩ : ∃ a : Nat, from' = (a : Int) := ⟨from'.toNat, by omega⟩
    exact sstay_in gen s W a w (by omega) (by omega) (by omega) (by omega) (by omega)
end Go.Proofs.Ytkcjiogackkecaa
