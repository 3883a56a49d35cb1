/-
  SplitTwice, walked. No statement is proved here.
-/
import Derived.Test.YtkcjiogackkecaaSplitFewWalk
import Derived.Test.YtkcjiogackkecaaIntsView
import Derived.BigQuiet
namespace Go.Proofs.Ytkcjiogackkecaa
open Go.RowKit

set_option maxRecDepth 100000 in
set_option maxHeartbeats 2000000 in
theorem stwice_out (gen : Int) (s : ByteArray) (A1 : Option Addr) (m1 c1 : Nat) (A2 : Option Addr) (m2 c2 : Nat) (W : ByteArray) (_hs : s.size ≤ 140737488351232) (_hw : W.size ≤ 140737488351232) (w : World) (h : 700 < s.size ∨ 150 < W.size ∨ gen < 1 ∨ 3 < gen ∨ m1 ≠ 2 ∨ m2 ≠ 2) :
    Calls Try.prog 7 #[.int .i64 gen, .string s, .slice A1 m1 c1, .slice A2 m2 c2, .string W] w fun e w' => e = .returned (.bool true) ∧ Below w.heap.size w w' := by
  by_cases h0 : 700 < s.size
  · clear h
    go_enter Try.func7, Try.ntmps7
    go_wp2_with fail
    refine (alive15_any _).mono ?_
    rintro e w1 ⟨rfl, hb1⟩
    go_wp2_with fail
    go_ret
    exact ⟨rfl, hb1⟩
  have n0 : s.size ≤ 700 := by omega
  by_cases h1 : 150 < W.size
  · clear h h0
    go_enter Try.func7, Try.ntmps7
    go_wp2_with fail
    refine (alive15_any _).mono ?_
    rintro e w1 ⟨rfl, hb1⟩
    go_wp2_with fail
    go_ret
    exact ⟨rfl, hb1⟩
  have n1 : W.size ≤ 150 := by omega
  by_cases h2 : gen < 1
  · clear h h0 h1
    go_enter Try.func7, Try.ntmps7
    go_wp2_with fail
    refine (alive15_any _).mono ?_
    rintro e w1 ⟨rfl, hb1⟩
    go_wp2_with fail
    go_ret
    exact ⟨rfl, hb1⟩
  have n2 : 1 ≤ gen := by omega
  by_cases h3 : 3 < gen
  · clear h h0 h1 h2
    go_enter Try.func7, Try.ntmps7
    go_wp2_with fail
    refine (alive15_any _).mono ?_
    rintro e w1 ⟨rfl, hb1⟩
    go_wp2_with fail
    go_ret
    exact ⟨rfl, hb1⟩
  have n3 : gen ≤ 3 := by omega
  by_cases h4 : m1 ≠ 2
  · clear h h0 h1 h2 h3
    have g4 : ((m1 : Int) != 2) = true := by simp; omega
    clear h4
    go_enter Try.func7, Try.ntmps7
    go_wp2_with fail
    refine (alive15_any _).mono ?_
    rintro e w1 ⟨rfl, hb1⟩
    go_wp2_with fail
    go_ret
    exact ⟨rfl, hb1⟩
  have n4 : m1 = 2 := by omega
  subst n4
  have h5 : m2 ≠ 2 := by omega
  clear h h0 h1 h2 h3 h4
  have g5 : ((m2 : Int) != 2) = true := by simp; omega
  clear h5
  go_enter Try.func7, Try.ntmps7
  go_wp2_with fail
  refine (alive15_any _).mono ?_
  rintro e w1 ⟨rfl, hb1⟩
  go_wp2_with fail
  go_ret
  exact ⟨rfl, hb1⟩

set_option maxRecDepth 100000 in
set_option maxHeartbeats 8000000 in
theorem stwice_in (gen : Int) (s W : ByteArray) (A1 : Option Addr) (c1 : Nat) (A2 : Option Addr) (c2 : Nat) (l1 l2 : List Int) (w : World) (h1 : s.size ≤ 700) (h2 : W.size ≤ 150) (h4 : 1 ≤ gen) (h5 : gen ≤ 3) (hx1 : IntsV w A1 2 c1 l1) (hx2 : IntsV w A2 2 c2 l2) :
    Calls Try.prog 7 #[.int .i64 gen, .string s, .slice A1 2 c1, .slice A2 2 c2, .string W] w fun e w' => e = .returned (.bool true) ∧ Below w.heap.size w w' := by
  obtain ⟨T, x, fN, fC, rN, rC, hV, K⟩ := cutter_of (gen := gen) ⟨h4, h5⟩
  have HOF := Lib.hid (of_in (gen := gen) ⟨h4, h5⟩ hV)
  have hq1 : ∀ (w : World), (binOp .eql 29 (.iface T x) .nilIface).run Try.prog w = .ok (.bool false) w := fun w => by rfl
  obtain ⟨R, hR⟩ : ∃ R, R = ruleOf gen := ⟨_, rfl⟩
  rw [← hR] at K
  have HRC : Hid (∀ (S : ByteArray) (w' : World), S.size ≤ 1000000 → Calls Try.prog 13 #[.int .i64 gen, .string S] w' fun e w'' => ∃ p c, e = .returned (.slice p (cutL R 0 S.data.toList).length c) ∧ w''.ownsRow w'.heap.size 36 2 (.slice p (cutL R 0 S.data.toList).length c) (cutL R 0 S.data.toList).length (flatS (cutL R 0 S.data.toList)) ∧ Below w'.heap.size w' w'') := Lib.hid (fun S w' hS => by
    have h := refcut_any gen S w' hS
    rw [← hR] at h
    exact h)
  have HAG : Hid (∀ (S D : ByteArray) (F C : Nat) (w' : World) (p : Option Addr) (c B : Nat), F + C ≤ S.size → S.size ≤ 1000 → D = S.extract 0 F ++ W ++ S.extract (F + C) S.size → w'.ownsRow B 36 2 (.slice p (cutL R 0 S.data.toList).length c) (cutL R 0 S.data.toList).length (flatS (cutL R 0 S.data.toList)) →
      Calls Try.prog 25 #[.iface T x, .slice p (cutL R 0 S.data.toList).length c, .string D, .int .i64 (F : Int), .int .i64 ((F : Int) + (W.size : Int)), .int .i64 ((W.size : Int) - (C : Int))] w' fun e w'' => ∃ q d n, e = .returned (.tuple #[.slice q (cutL R 0 D.data.toList).length d, .int .i64 n]) ∧ w''.ownsRow w'.heap.size 36 2 (.slice q (cutL R 0 D.data.toList).length d) (cutL R 0 D.data.toList).length (flatS (cutL R 0 D.data.toList)) ∧ Below w'.heap.size w' w'') := Lib.hid (fun S D F C w' p c B hFC hS hD hr => by
    have hDl : D.data.toList = S.data.toList.take F ++ W.data.toList ++ S.data.toList.drop (F + C) := by
      rw [hD, ByteArray.data_append, Array.toList_append, ByteArray.data_append, Array.toList_append, extract_list, List.drop_zero, extract_drop]
    have hsl : S.data.toList.length = S.size := (Lib.size_eq S).symm
    have hl := cutL_few R 0 S.data.toList
    have hDz : D.size ≤ 2000 := by
      rw [Lib.size_eq, hDl, List.length_append, List.length_append, List.length_take, List.length_drop, ← Lib.size_eq, ← Lib.size_eq]
      omega
    have h := again_row K (l := cutL R 0 S.data.toList) (s := D) (a := (F : Int)) (b := (F : Int) + (W.size : Int)) (g := (W.size : Int) - (C : Int)) hr (by omega) (by omega) (by omega) (by omega) (by omega) (fun z hz => by
      obtain ⟨j, hj⟩ := List.getElem?_of_mem hz
      have := cutL_int (x0 := z.1) (x1 := z.2) hj
      omega)
    have h2 := again_edit K.ok S.data.toList W.data.toList F C (by omega)
    rw [← hDl, show ((F + W.data.toList.length : Nat) : Int) = (F : Int) + (W.size : Int) by rw [← Lib.size_eq]; omega, ← Lib.size_eq] at h2
    rw [h2] at h
    exact h.mono fun e w'' ⟨q, d, he, h3, h4⟩ => ⟨q, d, _, he, h3, h4⟩)
  have HX1 := Lib.hid hx1
  have HX2 := Lib.hid hx2
  clear hV hR K hx1 hx2
  go_enter Try.func7, Try.ntmps7
  go_wp2_with fail
  refine (alive15_any _).mono ?_
  rintro e w1 ⟨rfl, hb1⟩
  have HB1 := Lib.hid hb1
  clear hb1
  go_wp2_with fail
  refine (HOF.out _).mono ?_
  rintro e w2 ⟨rfl, hb2⟩
  have HB2 := Lib.hid (HB1.out.trans (hb2.mono HB1.out.size))
  clear hb2
  go_wp2_with fail
  refine (HRC.out s w2 (by omega)).mono ?_
  rintro e w3 ⟨p3, c3, rfl, hr3, hb3⟩
  have HB3 := Lib.hid (HB2.out.trans (hb3.mono HB2.out.size))
  obtain ⟨w4, hw4⟩ : ∃ w4, w4 = w3.alloc (.cells #[.slice A1 2 c1, .slice A2 2 c2] 68) := ⟨_, rfl⟩
  have HB4 : Hid (Below w.heap.size w w4) := Lib.hid (by rw [hw4]; exact HB3.out.alloc HB3.out.size _)
  have hbk : Blk w4 w3.heap.size 68 #[.slice A1 2 c1, .slice A2 2 c2] := by rw [hw4]; exact Blk.new w3 _ _
  have hr4 : w4.ownsRow w.heap.size 36 2 (.slice p3 (cutL R 0 s.data.toList).length c3) (cutL R 0 s.data.toList).length (flatS (cutL R 0 s.data.toList)) := by rw [hw4]; exact row_lower (hr3.alloc _) HB2.out.size
  obtain ⟨g, hg⟩ : ∃ g, g = w3.heap.size := ⟨_, rfl⟩
  rw [← hg] at hbk
  have HBK := Lib.hid hbk
  have HR4 := Lib.hid hr4
  have HW4 := Lib.hid hw4
  have HG := Lib.hid hg
  -- what each pair holds
  have HPAIR : Hid (∀ (i : Nat), i < 2 → ∀ w', Below w4.heap.size w4 w' → ∃ b off c y0 y1, w'.cell? ⟨g, i, none⟩ = some (.slice (some ⟨b, off, none⟩) 2 c) ∧ w'.cell? ⟨b, off, none⟩ = some (.int .i64 y0) ∧ w'.cell? ⟨b, off + 1, none⟩ = some (.int .i64 y1)) := Lib.hid (fun i hi w' hw' => by
    have hk := HBK.out.below hw' HBK.out.lt
    have one : ∀ (A : Option Addr) (c : Nat) (l : List Int), IntsV w A 2 c l → ∃ b off y0 y1, A = some ⟨b, off, none⟩ ∧ w'.cell? ⟨b, off, none⟩ = some (.int .i64 y0) ∧ w'.cell? ⟨b, off + 1, none⟩ = some (.int .i64 y1) := by
      intro A c l hl
      obtain ⟨b, off, e, hb, hc⟩ := hl.lie (by rw [hl.len]; omega)
      have q0 := hc 0 _ (List.getElem?_eq_getElem (by rw [hl.len]; omega))
      have q1 := hc 1 _ (List.getElem?_eq_getElem (by rw [hl.len]; omega))
      exact ⟨b, off, _, _, e, ((HB4.out.trans (hw'.mono HB4.out.size)).cell (p := ⟨b, off, none⟩) hb).trans q0, ((HB4.out.trans (hw'.mono HB4.out.size)).cell (p := ⟨b, off + 1, none⟩) hb).trans q1⟩
    rcases (show i = 0 ∨ i = 1 by omega) with rfl | rfl
    · obtain ⟨b, off, y0, y1, e, q0, q1⟩ := one A1 c1 l1 HX1.out
      exact ⟨b, off, c1, y0, y1, by rw [hk.cell 0, ← e]; rfl, q0, q1⟩
    · obtain ⟨b, off, y0, y1, e, q0, q1⟩ := one A2 c2 l2 HX2.out
      exact ⟨b, off, c2, y0, y1, by rw [hk.cell 1, ← e]; rfl, q0, q1⟩)
  clear hr3 hb3 hbk hr4 hw4 hg
  go_wp2_with fail
  rw [← HW4.out, ← HG.out]
  go_loopw [1, 13, 15, 16, 17] (fun sv lv iv _ _ wr => ∃ (i : Nat) (S : ByteArray) (p : Option Addr) (c : Nat), i ≤ 2 ∧ iv = .int .i64 (i : Int) ∧ sv = .string S ∧ S.size ≤ 700 + 150 * i ∧ lv = .slice p (cutL R 0 S.data.toList).length c ∧ wr.ownsRow w.heap.size 36 2 (.slice p (cutL R 0 S.data.toList).length c) (cutL R 0 S.data.toList).length (flatS (cutL R 0 S.data.toList)) ∧ Below w4.heap.size w4 wr) (fun _ _ iv _ _ _ => 2 - (intOf iv).toNat)
  case atStart => exact ⟨0, s, p3, c3, by omega, rfl, rfl, by omega, rfl, HR4.out, Below.refl _ _⟩
  case round =>
    obtain ⟨i, S, p, c, hi, rfl, rfl, hS, rfl, hr, hbr⟩ := hrel
    have HR := Lib.hid hr
    have HBR := Lib.hid hbr
    clear hr hbr
    by_cases hlt : i < 2
    · have hltI : decide ((i : Int) < 2) = true := decide_eq_true (by omega)
      obtain ⟨b, off, cc, y0, y1, q0, q1, q2⟩ := HPAIR.out i hlt wr HBR.out
      have HQ := Lib.hid q0
      go_upto_region 13 with fail
      obtain ⟨F, hF⟩ : ∃ F : Nat, (F : Int) = min (max y0 0) (S.size : Int) := ⟨(min (max y0 0) (S.size : Int)).toNat, by omega⟩
      rw [← hF]
      obtain ⟨C, hC⟩ : ∃ C : Nat, (C : Int) = min (max y1 0) ((S.size : Int) - (F : Int)) := ⟨(min (max y1 0) ((S.size : Int) - (F : Int))).toNat, by omega⟩
      rw [← hC]
      have hFS : F ≤ S.size := by omega
      have hFC : F + C ≤ S.size := by omega
      have hFSI : (F : Int) ≤ (S.size : Int) := by omega
      have hFCI : (F : Int) + (C : Int) ≤ (S.size : Int) := by omega
      obtain ⟨D, hD⟩ : ∃ D : ByteArray, D = S.extract 0 F ++ W ++ S.extract (F + C) S.size := ⟨_, rfl⟩
      have hDz : D.size ≤ 700 + 150 * (i + 1) := by
        rw [hD, ByteArray.size_append, ByteArray.size_append, ByteArray.size_extract, ByteArray.size_extract]
        omega
      have HDD := Lib.hid hD
      have HDZ := Lib.hid hDz
      clear q0 q1 q2 hF hC hDz hD
      go_quiet (fail)
      rw [← HDD.out]
      go_wp2_with fail
      have hRq := row_below HR.out (below_dn wr nq)
      refine (HAG.out S D F C (wr.drewN nq) p c _ hFC (by omega) HDD.out hRq).mono ?_
      rintro e w6 ⟨q6, c6, n6, rfl, hr6, hb6⟩
      have hb6' : Below w4.heap.size w4 w6 := (HBR.out.trans ((below_dn wr nq).mono HBR.out.size)).trans (hb6.mono (Nat.le_trans HBR.out.size (below_dn (B := 0) wr nq).size))
      have HB6 := Lib.hid hb6'
      have HB6l : Hid (w4.heap.size ≤ (wr.drewN nq).heap.size) := Lib.hid (Nat.le_trans HBR.out.size (below_dn (B := 0) wr nq).size)
      have HR6 := Lib.hid hr6
      clear hr6 hb6 hb6' hRq
      go_wp2_with fail
      refine (HRC.out D w6 (by have := HDZ.out; omega)).mono ?_
      rintro e w7 ⟨p7, c7, rfl, hr7, hb7⟩
      have HB7 := Lib.hid (HB6.out.trans (hb7.mono HB6.out.size))
      have HR67 := Lib.hid (row_below HR6.out hb7)
      obtain ⟨n, hn⟩ : ∃ n, n = (cutL R 0 D.data.toList).length := ⟨_, rfl⟩
      have hn6 : n ≤ 1000000 := by
        have h := cutL_few R 0 D.data.toList
        rw [← hn, ← Lib.size_eq] at h
        have := HDZ.out
        omega
      have HSS := Lib.hid (rsame_any q6 p7 n c6 c7 (cutL R 0 D.data.toList) w7 hn.symm (row_spans HR67.out) (row_spans hr7) hn6)
      have HN := Lib.hid hn
      rw [← hn]
      clear hr7 hb7 hn
      go_wp2_with fail
      refine HSS.out.mono ?_
      rintro e w8 ⟨rfl, n8, rfl⟩
      have HB8 := Lib.hid (HB7.out.trans ((below_dn w7 n8).mono HB7.out.size))
      have HR8 := Lib.hid (row_lower (row_below HR67.out (below_dn w7 n8)) (Nat.le_trans HB4.out.size HB6l.out))
      go_wp2_with fail
      go_roundw
      case rel => exact ⟨i + 1, D, q6, c6, by omega, by go_num, rfl, HDZ.out, by rw [HN.out], HR8.out, HB8.out⟩
      case measure => simp [intOf]; omega
    · have hltI : decide ((i : Int) < 2) = false := decide_eq_false (by omega)
      go_wp2_with fail
      go_ret
      exact ⟨rfl, HB4.out.trans (HBR.out.mono HB4.out.size)⟩
theorem stwice_any (gen : Int) (s : ByteArray) (A1 : Option Addr) (m1 c1 : Nat) (l1 : List Int) (A2 : Option Addr) (m2 c2 : Nat) (l2 : List Int) (W : ByteArray) (w : World) (_hg : -9223372036854775808 ≤ gen ∧ gen ≤ 9223372036854775807) (hs : s.size ≤ 140737488351232) (hx1 : IntsV w A1 m1 c1 l1) (hx2 : IntsV w A2 m2 c2 l2) (hW : W.size ≤ 140737488351232) :
    Calls Try.prog 7 #[.int .i64 gen, .string s, .slice A1 m1 c1, .slice A2 m2 c2, .string W] w fun e w' => e = .returned (.bool true) ∧ Below w.heap.size w w' := by
  by_cases h : 700 < s.size ∨ 150 < W.size ∨ gen < 1 ∨ 3 < gen ∨ m1 ≠ 2 ∨ m2 ≠ 2
  · exact stwice_out gen s A1 m1 c1 A2 m2 c2 W hs hW w h
  · obtain rfl : m1 = 2 := by omega
    obtain rfl : m2 = 2 := by omega
    exact stwice_in gen s W A1 c1 A2 c2 l1 l2 w (by omega) (by omega) (by omega) (by omega) hx1 hx2
end Go.Proofs.Ytkcjiogackkecaa
