/-
  SplitTells, walked. No statement is proved here.
-/
import Derived.Test.YtkcjiogackkecaaSplitFewWalk
import Derived.Test.YtkcjiogackkecaaCdcTellsMid
import Derived.BigQuiet
namespace Go.Proofs.Ytkcjiogackkecaa
open Go.RowKit

set_option maxRecDepth 100000 in
set_option maxHeartbeats 16000000 in
theorem stells_any (gen n : Int) (R : RuleN) (A : Option Addr) (m c : Nat) (xs : List ByteArray) (w : World) (hgen : -9223372036854775808 ≤ gen ∧ gen ≤ 9223372036854775807) (hn : -9223372036854775808 ≤ n ∧ n ≤ 9223372036854775807) (hin : TextsIn w A m c xs) :
    Calls Try.prog 3 #[.int .i64 gen, .int .i64 n, R.val, .slice A m c] w fun e w' => e = .returned (.bool true) ∧ Below w.heap.size w w' := by
  have HAL := Lib.hid alive15_any
  have HBK : Hid (RuleAt (w.alloc (.cells #[.int .i64 R.mn, .int .i64 R.md, .int .i64 R.mx, .int .i64 R.hd, .int .i64 R.sf] 23)) w.heap.size R) := Lib.hid (Blk.new w _ _)
  obtain ⟨a, b, c5, d, e5⟩ := R
  simp only at HBK
  obtain ⟨w1, hw1⟩ : ∃ w1, w1 = w.alloc (.cells #[.int .i64 a, .int .i64 b, .int .i64 c5, .int .i64 d, .int .i64 e5] 23) := ⟨_, rfl⟩
  have HB1 : Hid (Below w.heap.size w w1) := Lib.hid (by rw [hw1]; exact (Below.refl _ _).alloc (Nat.le_refl _) _)
  rw [← hw1] at HBK
  have HW1 := Lib.hid hw1
  have HIN := Lib.hid hin
  clear hw1 hin
  unfold RuleN.val
  simp only
  obtain ⟨gr, hgr⟩ : ∃ gr, gr = w.heap.size := ⟨_, rfl⟩
  rw [← hgr] at HBK
  have HGR := Lib.hid hgr
  have HSH := Lib.hid (short_any 12 1500 A m c xs w1 HIN.out.len ((HIN.out.lie.below HB1.out).more HB1.out.size) HIN.out.short HIN.out.few (by omega) (by omega) (by omega) (by omega))
  have HOF := Lib.hid (of_any gen)
  have hqn : ∀ (w : World), (binOp .neq 29 .nilIface .nilIface).run Try.prog w = .ok (.bool false) w := fun w => by rfl
  clear hgr
  go_enter Try.func3, Try.ntmps3
  go_wp2_with fail
  rw [← HW1.out]
  refine HSH.out.mono ?_
  rintro e w2 ⟨⟨r, rfl, hr⟩, hb2⟩
  have HB2 := Lib.hid (HB1.out.trans (hb2.mono HB1.out.size))
  have HBK2 := Lib.hid (HBK.out.below hb2 HBK.out.lt)
  clear hb2 HSH
  cases r with
  | false =>
    clear hr
    go_wp2_with fail
    refine (HAL.out _).mono ?_
    rintro e w3 ⟨rfl, hb3⟩
    have HB3 := Lib.hid (HB2.out.trans (hb3.mono HB2.out.size))
    clear hb3
    go_wp2_with fail
    go_ret
    exact ⟨rfl, HB3.out⟩
  | true =>
  have HR := Lib.hid (hr rfl)
  clear hr
  go_wp2_with fail
  refine (HAL.out _).mono ?_
  rintro e w3 ⟨rfl, hb3⟩
  have HB3 := Lib.hid (HB2.out.trans (hb3.mono HB2.out.size))
  have HBK3 := Lib.hid (HBK2.out.below hb3 HBK2.out.lt)
  clear hb3
  have hm12 : m ≤ 12 := by have := HR.out.1; rw [HIN.out.len] at this; omega
  have hmc : m ≤ c := HIN.out.room
  obtain ⟨S, hS⟩ : ∃ S, S = (cats xs).length := ⟨_, rfl⟩
  have HSS := Lib.hid hS
  have hS2 : S ≤ 1500 := by have := HR.out.2; rw [← HSS.out] at this; omega
  have HJOIN := Lib.hid (join_any A m c xs w3 HIN.out.len ((HIN.out.lie.below HB3.out).more HB3.out.size) (by omega) (by rw [← HSS.out]; omega))
  clear hS
  go_wp2_with fail
  refine HJOIN.out.mono ?_
  rintro e w3' ⟨rfl, rfl⟩
  have HCA := Lib.hid (al_list xs)
  have HALD : Hid ((joined xs).data.toList = cats xs) := Lib.hid rfl
  have HJS : Hid ((joined xs).size = S) := Lib.hid (by rw [joined_size, HSS.out])
  obtain ⟨al, hal⟩ : ∃ al, al = joined xs := ⟨_, rfl⟩
  rw [← hal] at HJS HCA HALD
  rw [← hal]
  clear hal HJOIN
  have hals : al.size ≤ 1500 := by have := HJS.out; omega
  go_wp2_with fail
  refine (HOF.out w3).mono ?_
  rintro e w4 ⟨rfl, hb4⟩
  have HB4 := Lib.hid (HB3.out.trans (hb4.mono HB3.out.size))
  have HBK4 := Lib.hid (HBK3.out.below hb4 HBK3.out.lt)
  clear hb4
  obtain ⟨BX, hBX⟩ : ∃ BX : Bool, BX = !(decide (1 ≤ gen ∧ gen ≤ 3)) := ⟨_, rfl⟩
  have HBX := Lib.hid hBX
  clear hBX
  obtain ⟨cv, hcv⟩ : ∃ cv, cv = ofV gen := ⟨_, rfl⟩
  rw [← hcv]
  obtain ⟨v0, v1, hvv⟩ : ∃ v0 v1, ofV gen = #[v0, v1] := by
    unfold ofV
    split
    · exact ⟨_, _, rfl⟩
    · exact ⟨_, _, rfl⟩
  rw [hcv, hvv]
  have HVV0 := Lib.hid hvv
  clear hcv hvv
  go_upto_region 5 with fail
  go_cut [38] from 33 to 38 (fun v wx => v = .bool BX ∧ wx = w4)
  case first =>
    go_wp2_with fail
    all_goals (go_meet; refine ⟨congrArg Value.bool ?_, rfl⟩; first | (rw [HBX.out]; simp; done) | (rw [HBX.out]; simp; omega) | (rw [HBX.out, Bool.eq_iff_iff]; simp; done) | (rw [HBX.out, Bool.eq_iff_iff]; simp; omega) | (rw [HBX.out]; simp_all; done) | (rw [HBX.out]; simp_all; omega))
  case rest =>
  obtain ⟨w5, rfl⟩ : ∃ w5, w5 = wc := ⟨_, rfl⟩
  obtain ⟨rfl, rfl⟩ := hcut
  go_upto_if 38 with fail
  rw [← HGR.out]
  go_cut [] from 38 to 73 (fun wx => RuleAt wx gr ⟨a, b, c5, d, e5⟩ ∧ Below w.heap.size w wx)
  case first =>
    by_cases hin3 : 1 ≤ gen ∧ gen ≤ 3
    · obtain ⟨T, x, fN, fC, rN, rC, hV, K⟩ := cutter_of hin3
      have h := HVV0.out
      rw [ofV_in hin3, hV] at h
      obtain ⟨rfl, rfl⟩ : Value.iface T x = v0 ∧ Value.int .i64 0 = v1 := by
        injection h with h
        injection h with h1 h2
        injection h2 with h2 _
        exact ⟨h1, h2⟩
      have hbx : BX = false := by rw [HBX.out]; simp [hin3]
      subst hbx
      have hq1 : ∀ (w : World), (binOp .eql 29 (.iface T x) .nilIface).run Try.prog w = .ok (.bool false) w := fun w => by rfl
      obtain ⟨R1, hR1⟩ : ∃ R1, R1 = ruleOf gen := ⟨_, rfl⟩
      rw [← hR1] at K
      obtain ⟨K1, hK1⟩ : ∃ K1, K1 = cutL R1 0 al.data.toList := ⟨_, rfl⟩
      obtain ⟨kk, hkk⟩ : ∃ kk, kk = K1.length := ⟨_, rfl⟩
      obtain ⟨F1, hF1⟩ : ∃ F1, F1 = firstL R1 al.data.toList := ⟨_, rfl⟩
      have hkl : kk ≤ 1500 := by rw [hkk, hK1]; have h := cutL_few R1 0 al.data.toList; rw [← Lib.size_eq] at h; omega
      have HRC := Lib.hid (refcut_any gen al w5 (by omega))
      rw [← hR1, ← hK1, ← hkk] at HRC
      have HZ : Hid (kk = 0 → F1 = 0) := Lib.hid (fun h => by
        have h2 : al.data.toList = [] := cutL_empty (hK1.symm.trans (List.eq_nil_of_length_eq_zero (by omega)))
        rw [hF1, h2]
        have := firstL_le R1 []
        simp at this
        exact this)
      have HZ1 : Hid (0 < kk → ∃ y0, K1[0]? = some (y0, (F1 : Int))) := Lib.hid (fun h => by
        have hne : al.data.toList ≠ [] := by
          intro e
          rw [e, cutL_nil] at hK1
          rw [hK1] at hkk
          simp at hkk
          omega
        rw [hK1, cutL_cons R1 0 _ hne, hF1]
        exact ⟨((0 : Nat) : Int), by simp⟩)
      have HCT : Hid (∀ w', Below w.heap.size w w' → Calls Try.prog fC #[rC, .slice A m c] w' fun e w'' => ∃ p q, e = .returned (.slice p kk q) ∧ w''.ownsRow w'.heap.size 36 2 (.slice p kk q) kk (flatS K1) ∧ Below w'.heap.size w' w'') := Lib.hid (fun w' hb' => by
        have h := K.cut A m c xs w' HIN.out.len ((HIN.out.lie.below hb').more hb'.size) (by omega) hmc (by rw [← HSS.out]; omega)
        rw [← HALD.out, ← hK1, ← hkk] at h
        exact h)
      have HNX : Hid (∀ w', Calls Try.prog fN #[rN, .string al] w' fun e w'' => e = .returned (.int .i64 (F1 : Int)) ∧ Below w'.heap.size w' w'') := Lib.hid (fun w' => by
        have h := K.next al w' (by omega)
        rw [← hF1] at h
        exact h)
      have hmC := K.mC
      have hmN := K.mN
      have hcC := K.cC
      have hcN := K.cN
      have HKK := Lib.hid hkk
      clear h hR1 hK1 hkk hF1 hV K
      go_wp2_with fail
      refine HRC.out.mono ?_
      rintro e w6 ⟨p6, q6, rfl, hr6, hb6⟩
      have HB6 := Lib.hid (HB4.out.trans (hb6.mono HB4.out.size))
      have HBK6 := Lib.hid (HBK4.out.below hb6 HBK4.out.lt)
      have HR6 := Lib.hid hr6
      have HS6 := Lib.hid (row_spans (l := K1) (by rw [← HKK.out]; exact hr6))
      clear hr6 hb6
      go_upto_if 56 with fail
      go_cut [13] from 56 to 60 (fun v wx => v = .int .i64 (F1 : Int) ∧ wx = w6)
      case first =>
        by_cases h0 : 0 < kk
        · have h0I : (0 : Int) < (kk : Int) := by omega
          obtain ⟨y0, hy0⟩ := HZ1.out h0
          obtain ⟨bb, off, hA, hbB, hc⟩ := HS6.out (by rw [← HKK.out]; exact h0)
          obtain ⟨d0, d1⟩ := hc 0 _ hy0
          rw [Nat.zero_mul, Nat.add_zero] at d0 d1
          simp only at d0 d1
          subst hA
          clear hc hy0
          go_wp2_with fail
          go_meet
          exact ⟨rfl, rfl⟩
        · have h0I : ¬ (0 : Int) < (kk : Int) := by omega
          have hz := HZ.out (by omega)
          subst hz
          go_wp2_with fail
          go_meet
          exact ⟨rfl, rfl⟩
      case rest =>
      obtain ⟨w7, rfl⟩ : ∃ w7, w7 = wc := ⟨_, rfl⟩
      obtain ⟨rfl, rfl⟩ := hcut
      go_wp2_with fail
      refine (HCT.out _ HB6.out).mono ?_
      rintro e w8 ⟨p8, q8, rfl, hr8, hb8⟩
      have HB8 := Lib.hid (HB6.out.trans (hb8.mono HB6.out.size))
      have HBK8 := Lib.hid (HBK6.out.below hb8 HBK6.out.lt)
      have HSS8 := Lib.hid (ssame_any p8 p6 kk q8 q6 K1 w8 HKK.out.symm (row_spans (by rw [← HKK.out]; exact hr8)) ((HS6.out.below hb8).more hb8.size) (by omega))
      clear hr8 hb8
      go_wp2_with fail
      refine HSS8.out.mono ?_
      rintro e w9 ⟨rfl, n9, rfl⟩
      go_wp2_with fail
      refine (HNX.out _).mono ?_
      rintro e w10 ⟨rfl, hb10⟩
      have hb8n : Below w8.heap.size w8 (w8.drewN n9) := below_dn _ _
      have HB10 := Lib.hid (HB8.out.trans ((hb8n.trans (hb10.mono hb8n.size)).mono HB8.out.size))
      have HBK10 := Lib.hid ((HBK8.out.below hb8n HBK8.out.lt).below hb10 (HBK8.out.below hb8n HBK8.out.lt).lt)
      clear hb10 hb8n
      go_wp2_with fail
      go_meet
      exact ⟨HBK10.out, HB10.out⟩
    · have h := HVV0.out
      rw [ofV_out hin3] at h
      obtain ⟨rfl, rfl⟩ : Value.nilIface = v0 ∧ Value.int .i64 1 = v1 := by
        injection h with h
        injection h with h1 h2
        injection h2 with h2 _
        exact ⟨h1, h2⟩
      have hbx : BX = true := by rw [HBX.out]; simp [hin3]
      subst hbx
      clear h
      go_wp2_with fail
      go_meet
      exact ⟨HBK4.out, HB4.out⟩
  case rest =>
  obtain ⟨w6, rfl⟩ : ∃ w6, w6 = wc := ⟨_, rfl⟩
  have HK6 := Lib.hid hcut.1
  have HB6 := Lib.hid hcut.2
  clear hcut
  have c0 : w6.cell? ⟨gr, 0, none⟩ = some (.int .i64 a) := HK6.out.cell 0
  have c1 : w6.cell? ⟨gr, 1, none⟩ = some (.int .i64 b) := HK6.out.cell 1
  have c2 : w6.cell? ⟨gr, 2, none⟩ = some (.int .i64 c5) := HK6.out.cell 2
  have c3 : w6.cell? ⟨gr, 3, none⟩ = some (.int .i64 d) := HK6.out.cell 3
  have c4 : w6.cell? ⟨gr, 4, none⟩ = some (.int .i64 e5) := HK6.out.cell 4
  go_upto_region 17 with fail
  clear c0 c1 c2 c3 c4
  obtain ⟨gx, hgx⟩ : ∃ gx, gx = w6.heap.size := ⟨_, rfl⟩
  obtain ⟨w7, hw7⟩ : ∃ w', w' = w6.alloc (.cells #[.int .i64 a, .int .i64 b, .int .i64 c5, .int .i64 d, .int .i64 e5] 40) := ⟨_, rfl⟩
  have HX7 : Hid (Blk w7 gx 40 #[.int .i64 a, .int .i64 b, .int .i64 c5, .int .i64 d, .int .i64 e5]) := Lib.hid (by rw [hw7, hgx]; exact Blk.new w6 _ _)
  have hb67 : Below w6.heap.size w6 w7 := by rw [hw7]; exact (Below.refl _ _).alloc (Nat.le_refl _) _
  have HB7 := Lib.hid (HB6.out.trans (hb67.mono HB6.out.size))
  have HK7 := Lib.hid (HK6.out.below hb67 HK6.out.lt)
  rw [← hw7, ← hgx]
  clear hw7 hgx hb67
  have c0 : w7.cell? ⟨gr, 0, none⟩ = some (.int .i64 a) := HK7.out.cell 0
  have c1 : w7.cell? ⟨gr, 1, none⟩ = some (.int .i64 b) := HK7.out.cell 1
  have c2 : w7.cell? ⟨gr, 2, none⟩ = some (.int .i64 c5) := HK7.out.cell 2
  have c3 : w7.cell? ⟨gr, 3, none⟩ = some (.int .i64 d) := HK7.out.cell 3
  have c4 : w7.cell? ⟨gr, 4, none⟩ = some (.int .i64 e5) := HK7.out.cell 4
  go_upto_region 18 with fail
  clear c0 c1 c2 c3 c4
  obtain ⟨gu, hgu⟩ : ∃ gu, gu = w7.heap.size := ⟨_, rfl⟩
  obtain ⟨w8, hw8⟩ : ∃ w', w' = w7.alloc (.cells #[.int .i64 a, .int .i64 b, .int .i64 c5, .int .i64 d, .int .i64 e5] 42) := ⟨_, rfl⟩
  have HU8 : Hid (Blk w8 gu 42 #[.int .i64 a, .int .i64 b, .int .i64 c5, .int .i64 d, .int .i64 e5]) := Lib.hid (by rw [hw8, hgu]; exact Blk.new w7 _ _)
  have hb78 : Below w7.heap.size w7 w8 := by rw [hw8]; exact (Below.refl _ _).alloc (Nat.le_refl _) _
  have HB8 := Lib.hid (HB7.out.trans (hb78.mono HB7.out.size))
  have HX8 := Lib.hid (HX7.out.below hb78 HX7.out.lt)
  rw [← hw8, ← hgu]
  clear hw8 hgu hb78
  go_upto_region 19 with fail
  obtain ⟨ge, hge⟩ : ∃ ge, ge = w8.heap.size := ⟨_, rfl⟩
  obtain ⟨W0, hW0⟩ : ∃ w', w' = w8.alloc (.cells #[.int .i64 n] 44) := ⟨_, rfl⟩
  have HE : Hid (Blk W0 ge 44 #[.int .i64 n]) := Lib.hid (by rw [hW0, hge]; exact Blk.new w8 _ _)
  have hb80 : Below w8.heap.size w8 W0 := by rw [hW0]; exact (Below.refl _ _).alloc (Nat.le_refl _) _
  have HB0 := Lib.hid (HB8.out.trans (hb80.mono HB8.out.size))
  have HX := Lib.hid (HX8.out.below hb80 HX8.out.lt)
  have HU := Lib.hid (HU8.out.below hb80 HU8.out.lt)
  rw [← hW0, ← hge]
  clear hW0 hge hb80
  obtain ⟨E, hE⟩ : ∃ E : Int, E = max 0 (min n (al.size : Int)) := ⟨_, rfl⟩
  have HEE := Lib.hid hE
  go_upto_if 90 with fail
  go_cut [17] from 90 to 94 (fun v wx => v = .int .i64 E ∧ wx = W0)
  case first =>
    by_cases hn0 : 0 < n
    · have hEq : min n (al.size : Int) = E := by omega
      clear hE
      go_wp2_with fail
      go_meet
      exact ⟨by rw [← hEq], rfl⟩
    · have hEq : (0 : Int) = E := by omega
      clear hE
      go_wp2_with fail
      go_meet
      exact ⟨by rw [← hEq], rfl⟩
  case rest =>
  obtain ⟨w9, rfl⟩ : ∃ w9, w9 = wc := ⟨_, rfl⟩
  obtain ⟨rfl, hwW⟩ := hcut
  subst hwW
  clear hE
  obtain ⟨cs, hcs⟩ : ∃ cs, cs = cutL ⟨a, b, c5, d, e5⟩ 0 (cats xs) := ⟨_, rfl⟩
  obtain ⟨M, hM⟩ : ∃ M, M = cs.length := ⟨_, rfl⟩
  have hM2 : M ≤ 1500 := by rw [hM, hcs]; have := cutL_few ⟨a, b, c5, d, e5⟩ 0 (cats xs); rw [← HSS.out] at this; omega
  obtain ⟨fs, hfs⟩ : ∃ fs, fs = cutS n (cats xs).length := ⟨_, rfl⟩
  obtain ⟨MF, hMF⟩ : ∃ MF, MF = fs.length := ⟨_, rfl⟩
  have hMF2 : MF ≤ 1500 := by
    rw [hMF, hfs]
    unfold cutS
    split
    · simp
    · rw [cutJ_len]
      have := many_few (m := n.toNat) (size := (cats xs).length) (by omega)
      rw [← HSS.out] at this ⊢
      omega
  obtain ⟨n1, hn1⟩ : ∃ n1, n1 = firstL ⟨a, b, c5, d, e5⟩ al.data.toList := ⟨_, rfl⟩
  obtain ⟨V, hV⟩ : ∃ V, V = (RuleN.mk a b c5 d e5).ok := ⟨_, rfl⟩
  have HM := Lib.hid hM
  have HMF := Lib.hid hMF
  have HCUT : Hid (∀ w', Below w9.heap.size w9 w' → Calls Try.prog 15 #[.agg #[.int .i64 a, .int .i64 b, .int .i64 c5, .int .i64 d, .int .i64 e5], .slice A m c] w' fun e w'' => ∃ p q, e = .returned (.slice p M q) ∧ w''.ownsRow w9.heap.size 36 2 (.slice p M q) M (flatS cs) ∧ Below w'.heap.size w' w'') := Lib.hid (fun w' hb' => by
    have hb2 := HB0.out.trans (hb'.mono HB0.out.size)
    have h := ccut_any ⟨a, b, c5, d, e5⟩ A m c xs w' HIN.out.len ((HIN.out.lie.below hb2).more hb2.size) (by omega) hmc (by rw [← HSS.out]; omega)
    rw [← hcs, ← hM] at h
    exact h.mono fun e w'' ⟨p, q, he, hr, hb3⟩ => ⟨p, q, he, row_lower hr hb'.size, hb3⟩)
  have HRCU : Hid (∀ w', Below w9.heap.size w9 w' → Calls Try.prog 16 #[.agg #[.int .i64 a, .int .i64 b, .int .i64 c5, .int .i64 d, .int .i64 e5], .string al] w' fun e w'' => ∃ p q, e = .returned (.slice p M q) ∧ w''.ownsRow w9.heap.size 36 2 (.slice p M q) M (flatS cs) ∧ Below w'.heap.size w' w'') := Lib.hid (fun w' hb' => by
    have h := rcut_any ⟨a, b, c5, d, e5⟩ al w' (by omega)
    rw [HALD.out, ← hcs, ← hM] at h
    exact h.mono fun e w'' ⟨p, q, he, hr, hb3⟩ => ⟨p, q, he, row_lower hr hb'.size, hb3⟩)
  have HEC : Hid (∀ w', Below w9.heap.size w9 w' → Calls Try.prog 21 #[.agg #[.int .i64 n], .slice A m c] w' fun e w'' => ∃ p q, e = .returned (.slice p MF q) ∧ w''.ownsRow w9.heap.size 36 2 (.slice p MF q) MF (flatS fs) ∧ Below w'.heap.size w' w'') := Lib.hid (fun w' hb' => by
    have hb2 := HB0.out.trans (hb'.mono HB0.out.size)
    have h := evcut_any n A m c xs w' hn HIN.out.len ((HIN.out.lie.below hb2).more hb2.size) (by omega) (by rw [← HSS.out]; omega)
    rw [← hfs, ← hMF] at h
    exact h.mono fun e w'' ⟨p, q, he, hr, hb3⟩ => ⟨p, q, he, row_lower hr hb'.size, hb3⟩)
  have HFX : Hid (∀ w', Below w9.heap.size w9 w' → Calls Try.prog 22 #[.int .i64 n, .int .i64 (al.size : Int)] w' fun e w'' => ∃ p q, e = .returned (.slice p MF q) ∧ w''.ownsRow w9.heap.size 36 2 (.slice p MF q) MF (flatS fs) ∧ Below w'.heap.size w' w'') := Lib.hid (fun w' hb' => by
    have h := rfixed_any n al.size w' hn (by omega)
    rw [HJS.out, HSS.out, ← hfs, ← hMF] at h
    rw [HJS.out, HSS.out]
    exact h.mono fun e w'' ⟨p, q, he, hr, hb3⟩ => ⟨p, q, he, row_lower hr hb'.size, hb3⟩)
  have HN1 : Hid (∀ w', Calls Try.prog 17 #[.agg #[.int .i64 a, .int .i64 b, .int .i64 c5, .int .i64 d, .int .i64 e5], .string al] w' fun e w'' => e = .returned (.int .i64 (n1 : Int)) ∧ Below w'.heap.size w' w'') := Lib.hid (fun w' => by
    have h := unnext_any ⟨a, b, c5, d, e5⟩ al w' (by omega)
    rw [← hn1] at h
    exact h)
  have HN2 : Hid (∀ w', Calls Try.prog 18 #[.agg #[.int .i64 a, .int .i64 b, .int .i64 c5, .int .i64 d, .int .i64 e5], .string al] w' fun e w'' => e = .returned (.int .i64 (n1 : Int)) ∧ Below w'.heap.size w' w'') := Lib.hid (fun w' => by
    have h := rfirst_any ⟨a, b, c5, d, e5⟩ al w' (by omega)
    rw [← hn1] at h
    exact h)
  have HV1 : Hid (∀ w', Calls Try.prog 19 #[.agg #[.int .i64 a, .int .i64 b, .int .i64 c5, .int .i64 d, .int .i64 e5]] w' fun e w'' => e = .returned (.bool V) ∧ Below w'.heap.size w' w'') := Lib.hid (fun w' => by
    have h := cvalid_any ⟨a, b, c5, d, e5⟩ w'
    rw [← hV] at h
    exact h)
  have HV2 : Hid (∀ w', Calls Try.prog 20 #[.agg #[.int .i64 a, .int .i64 b, .int .i64 c5, .int .i64 d, .int .i64 e5]] w' fun e w'' => e = .returned (.bool V) ∧ Below w'.heap.size w' w'') := Lib.hid (fun w' => by
    have h := rvalid_any ⟨a, b, c5, d, e5⟩ w'
    rw [← hV] at h
    exact h)
  have HEN : Hid (∀ w', Calls Try.prog 23 #[.agg #[.int .i64 n], .string al] w' fun e w'' => e = .returned (.int .i64 E) ∧ Below w'.heap.size w' w'') := Lib.hid (fun w' => by
    have h := evnext_any n al w'
    rw [← HEE.out] at h
    exact h)
  have HSA : Hid (∀ (w' : World) (p1 : Option Addr) (q1 : Nat) (p2 : Option Addr) (q2 : Nat), w'.ownsRow w9.heap.size 36 2 (.slice p1 M q1) M (flatS cs) → w'.ownsRow w9.heap.size 36 2 (.slice p2 M q2) M (flatS cs) → Calls Try.prog 14 #[.slice p1 M q1, .slice p2 M q2] w' fun e w'' => e = .returned (.bool true) ∧ Below w'.heap.size w' w'') := Lib.hid (fun w' p1 q1 p2 q2 r1 r2 =>
    (ssame_any p1 p2 M q1 q2 cs w' HM.out.symm (row_spans (by rw [← HM.out]; exact r1)) (row_spans (by rw [← HM.out]; exact r2)) (by omega)).mono fun e w'' ⟨he, q, hq⟩ => ⟨he, by rw [hq]; exact below_dn _ _⟩)
  have HSB : Hid (∀ (w' : World) (p1 : Option Addr) (q1 : Nat) (p2 : Option Addr) (q2 : Nat), w'.ownsRow w9.heap.size 36 2 (.slice p1 MF q1) MF (flatS fs) → w'.ownsRow w9.heap.size 36 2 (.slice p2 MF q2) MF (flatS fs) → Calls Try.prog 14 #[.slice p1 MF q1, .slice p2 MF q2] w' fun e w'' => e = .returned (.bool true) ∧ Below w'.heap.size w' w'') := Lib.hid (fun w' p1 q1 p2 q2 r1 r2 =>
    (ssame_any p1 p2 MF q1 q2 fs w' HMF.out.symm (row_spans (by rw [← HMF.out]; exact r1)) (row_spans (by rw [← HMF.out]; exact r2)) (by omega)).mono fun e w'' ⟨he, q, hq⟩ => ⟨he, by rw [hq]; exact below_dn _ _⟩)
  have HCU : Hid (∀ w', Below w9.heap.size w9 w' → w'.cell? ⟨gu, 0, none⟩ = some (.int .i64 a) ∧ w'.cell? ⟨gu, 1, none⟩ = some (.int .i64 b) ∧ w'.cell? ⟨gu, 2, none⟩ = some (.int .i64 c5) ∧ w'.cell? ⟨gu, 3, none⟩ = some (.int .i64 d) ∧ w'.cell? ⟨gu, 4, none⟩ = some (.int .i64 e5)) := Lib.hid (fun w' hw => by
    have hk := HU.out.below hw HU.out.lt
    exact ⟨hk.cell 0, hk.cell 1, hk.cell 2, hk.cell 3, hk.cell 4⟩)
  have HCX : Hid (∀ w', Below w9.heap.size w9 w' → w'.cell? ⟨gx, 0, none⟩ = some (.int .i64 a) ∧ w'.cell? ⟨gx, 1, none⟩ = some (.int .i64 b) ∧ w'.cell? ⟨gx, 2, none⟩ = some (.int .i64 c5) ∧ w'.cell? ⟨gx, 3, none⟩ = some (.int .i64 d) ∧ w'.cell? ⟨gx, 4, none⟩ = some (.int .i64 e5)) := Lib.hid (fun w' hw => by
    have hk := HX.out.below hw HX.out.lt
    exact ⟨hk.cell 0, hk.cell 1, hk.cell 2, hk.cell 3, hk.cell 4⟩)
  have HCE : Hid (∀ w', Below w9.heap.size w9 w' → w'.cell? ⟨ge, 0, none⟩ = some (.int .i64 n)) := Lib.hid (fun w' hw => (HE.out.below hw HE.out.lt).cell 0)
  have HVV : Hid ((V == V) = true) := Lib.hid (by simp)
  clear hcs hM hfs hMF hn1 hV
  go_upto_region 22 with fail
  refine wp_region_loosely 43 [some 95, some 96, some 97, some 98, some 99, some 100, some 101, some 102, some 103, some 104, some 105, some 106, some 107, some 108, some 109, some 110, some 111, some 112, some 113, some 114, some 115, some 116, some 117, some 118, some 119, some 120, some 121, some 122, some 123, some 124, some 125, some 126, some 127, some 128, some 129, some 130, some 131, some 132, some 133, some 134, some 135, some 136, some 8] [some (.pointer (some ⟨gu, 0, none⟩)), some (.agg #[.int .i64 a, .int .i64 b, .int .i64 c5, .int .i64 d, .int .i64 e5]), some (.slice A m c), none, some (.agg #[.int .i64 a, .int .i64 b, .int .i64 c5, .int .i64 d, .int .i64 e5]), some (.string al), none, some (.bool true), some (.bool true), some (.agg #[.int .i64 a, .int .i64 b, .int .i64 c5, .int .i64 d, .int .i64 e5]), some (.string al), some (.int .i64 (n1 : Int)), some (.agg #[.int .i64 a, .int .i64 b, .int .i64 c5, .int .i64 d, .int .i64 e5]), some (.string al), some (.int .i64 (n1 : Int)), some (.bool true), some (.bool true), some (.bool true), some (.pointer (some ⟨gu, 0, none⟩)), some (.agg #[.int .i64 a, .int .i64 b, .int .i64 c5, .int .i64 d, .int .i64 e5]), some (.bool V), some (.agg #[.int .i64 a, .int .i64 b, .int .i64 c5, .int .i64 d, .int .i64 e5]), some (.bool V), some (.bool true), some (.bool true), some (.bool true), some (.agg #[.int .i64 n]), some (.slice A m c), none, some (.int .i64 n), some (.string al), some (.int .i64 (al.size : Int)), none, some (.bool true), some (.bool true), some (.bool true), some (.agg #[.int .i64 n]), some (.string al), some (.int .i64 E), some (.int .i64 E), some (.bool true), some (.bool true), some (.bool true)] (fun _ w' => Below w9.heap.size w9 w') (fun _ w w' => Below w.heap.size w w') (fun L i v w => (i = 3 → (fun _ v w => ∃ p q, v = .slice p M q ∧ w.ownsRow w9.heap.size 36 2 (.slice p M q) M (flatS cs)) L v w) ∧ (i = 6 → (fun _ v w => ∃ p q, v = .slice p M q ∧ w.ownsRow w9.heap.size 36 2 (.slice p M q) M (flatS cs)) L v w) ∧ (i = 28 → (fun _ v w => ∃ p q, v = .slice p MF q ∧ w.ownsRow w9.heap.size 36 2 (.slice p MF q) MF (flatS fs)) L v w) ∧ (i = 32 → (fun _ v w => ∃ p q, v = .slice p MF q ∧ w.ownsRow w9.heap.size 36 2 (.slice p MF q) MF (flatS fs)) L v w)) (by kernel_rfl) (by kernel_rfl) rfl (by kernel_rfl) (by kernel_rfl) ?hM (fun _ _ _ _ _ h g => h.trans (g.mono h.size)) (below_dn _ 1) ?hops ?hrest
  case hM =>
    intro L o i v w w' hne hLi hLo hcl h hj hg
    exact ⟨(fun e => by
      have hh := h.1 e
      subst e
      exact (match hh with | ⟨p, q, e, hr⟩ => ⟨p, q, e, row_below hr hg⟩)), (fun e => by
      have hh := h.2.1 e
      subst e
      exact (match hh with | ⟨p, q, e, hr⟩ => ⟨p, q, e, row_below hr hg⟩)), (fun e => by
      have hh := h.2.2.1 e
      subst e
      exact (match hh with | ⟨p, q, e, hr⟩ => ⟨p, q, e, row_below hr hg⟩)), (fun e => by
      have hh := h.2.2.2 e
      subst e
      exact (match hh with | ⟨p, q, e, hr⟩ => ⟨p, q, e, row_below hr hg⟩))⟩
  case hops =>
    intro o ho L f x' w2 hcl hfr hLo hj hw
    rcases (show o = 0 ∨ o = 1 ∨ o = 2 ∨ o = 3 ∨ o = 4 ∨ o = 5 ∨ o = 6 ∨ o = 7 ∨ o = 8 ∨ o = 9 ∨ o = 10 ∨ o = 11 ∨ o = 12 ∨ o = 13 ∨ o = 14 ∨ o = 15 ∨ o = 16 ∨ o = 17 ∨ o = 18 ∨ o = 19 ∨ o = 20 ∨ o = 21 ∨ o = 22 ∨ o = 23 ∨ o = 24 ∨ o = 25 ∨ o = 26 ∨ o = 27 ∨ o = 28 ∨ o = 29 ∨ o = 30 ∨ o = 31 ∨ o = 32 ∨ o = 33 ∨ o = 34 ∨ o = 35 ∨ o = 36 ∨ o = 37 ∨ o = 38 ∨ o = 39 ∨ o = 40 ∨ o = 41 ∨ o = 42 by omega) with rfl | rfl | rfl | rfl | rfl | rfl | rfl | rfl | rfl | rfl | rfl | rfl | rfl | rfl | rfl | rfl | rfl | rfl | rfl | rfl | rfl | rfl | rfl | rfl | rfl | rfl | rfl | rfl | rfl | rfl | rfl | rfl | rfl | rfl | rfl | rfl | rfl | rfl | rfl | rfl | rfl | rfl | rfl
    · have e1 : x'.tmps[15]?.getD undef = .pointer (some ⟨gu, 0, none⟩) := by rw [hfr 15 (slL_far (by kernel_rfl))]; rfl
      clear hw hfr hcl hLo
      refine wpOp_on (v := .pointer (some ⟨gu, 0, none⟩)) (w' := w2) rfl (wanted_none rfl) ?_ ⟨_, rfl, (Below.refl _ _), .known rfl ⟨(fun e => absurd e (by decide)), (fun e => absurd e (by decide)), (fun e => absurd e (by decide)), (fun e => absurd e (by decide))⟩⟩
      go_simp
    · have e1 : x'.tmps[95]?.getD undef = .pointer (some ⟨gu, 0, none⟩) := (hw 0 (of_decide_eq_true (by kernel_rfl))).is rfl rfl
      obtain ⟨z0, z1, z2, z3, z4⟩ := HCU.out w2 hj
      clear hw hfr hcl hLo
      refine wpOp_on (v := .agg #[.int .i64 a, .int .i64 b, .int .i64 c5, .int .i64 d, .int .i64 e5]) (w' := w2) rfl (wanted_none rfl) ?_ ⟨_, rfl, (Below.refl _ _), .known rfl ⟨(fun e => absurd e (by decide)), (fun e => absurd e (by decide)), (fun e => absurd e (by decide)), (fun e => absurd e (by decide))⟩⟩
      go_simp
    · have e1 : x'.tmps[3]?.getD undef = .slice A m c := by rw [hfr 3 (slL_far (by kernel_rfl))]; rfl
      clear hw hfr hcl hLo
      refine wpOp_on (v := .slice A m c) (w' := w2) rfl (wanted_none rfl) ?_ ⟨_, rfl, (Below.refl _ _), .known rfl ⟨(fun e => absurd e (by decide)), (fun e => absurd e (by decide)), (fun e => absurd e (by decide)), (fun e => absurd e (by decide))⟩⟩
      go_simp
    · have e1 : x'.tmps[96]?.getD undef = .agg #[.int .i64 a, .int .i64 b, .int .i64 c5, .int .i64 d, .int .i64 e5] := (hw 1 (of_decide_eq_true (by kernel_rfl))).is rfl rfl
      have e2 : x'.tmps[97]?.getD undef = .slice A m c := (hw 2 (of_decide_eq_true (by kernel_rfl))).is rfl rfl
      clear hw hfr hcl hLo
      refine wpOp_enter (f := 15) (args := #[.agg #[.int .i64 a, .int .i64 b, .int .i64 c5, .int .i64 d, .int .i64 e5], .slice A m c]) rfl (wanted_none rfl) (by go_simp) ((HCUT.out w2 hj).mono ?_)
      rintro e wy ⟨p, q, rfl, hr, hb⟩
      exact ⟨_, rfl, _, rfl, hb, .loose rfl ⟨(fun _ => ⟨p, q, rfl, hr⟩), (fun e => absurd e (by decide)), (fun e => absurd e (by decide)), (fun e => absurd e (by decide))⟩⟩
    · have e1 : x'.tmps[14]?.getD undef = .pointer (some ⟨gx, 0, none⟩) := by rw [hfr 14 (slL_far (by kernel_rfl))]; rfl
      obtain ⟨z0, z1, z2, z3, z4⟩ := HCX.out w2 hj
      clear hw hfr hcl hLo
      refine wpOp_on (v := .agg #[.int .i64 a, .int .i64 b, .int .i64 c5, .int .i64 d, .int .i64 e5]) (w' := w2) rfl (wanted_none rfl) ?_ ⟨_, rfl, (Below.refl _ _), .known rfl ⟨(fun e => absurd e (by decide)), (fun e => absurd e (by decide)), (fun e => absurd e (by decide)), (fun e => absurd e (by decide))⟩⟩
      go_simp
    · have e1 : x'.tmps[9]?.getD undef = .string al := by rw [hfr 9 (slL_far (by kernel_rfl))]; rfl
      clear hw hfr hcl hLo
      refine wpOp_on (v := .string al) (w' := w2) rfl (wanted_none rfl) ?_ ⟨_, rfl, (Below.refl _ _), .known rfl ⟨(fun e => absurd e (by decide)), (fun e => absurd e (by decide)), (fun e => absurd e (by decide)), (fun e => absurd e (by decide))⟩⟩
      go_simp
    · have e1 : x'.tmps[99]?.getD undef = .agg #[.int .i64 a, .int .i64 b, .int .i64 c5, .int .i64 d, .int .i64 e5] := (hw 4 (of_decide_eq_true (by kernel_rfl))).is rfl rfl
      have e2 : x'.tmps[100]?.getD undef = .string al := (hw 5 (of_decide_eq_true (by kernel_rfl))).is rfl rfl
      clear hw hfr hcl hLo
      refine wpOp_enter (f := 16) (args := #[.agg #[.int .i64 a, .int .i64 b, .int .i64 c5, .int .i64 d, .int .i64 e5], .string al]) rfl (wanted_none rfl) (by go_simp) ((HRCU.out w2 hj).mono ?_)
      rintro e wy ⟨p, q, rfl, hr, hb⟩
      exact ⟨_, rfl, _, rfl, hb, .loose rfl ⟨(fun e => absurd e (by decide)), (fun _ => ⟨p, q, rfl, hr⟩), (fun e => absurd e (by decide)), (fun e => absurd e (by decide))⟩⟩
    · have e1 := (hw 3 (of_decide_eq_true (by kernel_rfl)))
      have e2 := (hw 6 (of_decide_eq_true (by kernel_rfl)))
      obtain ⟨p1, q1, ev1, hr1⟩ := e1.2.1.2.1 rfl
      have e1' : x'.tmps[98]?.getD undef = .slice p1 M q1 := (e1.2.2 98 rfl).trans ev1
      clear e1
      obtain ⟨p2, q2, ev2, hr2⟩ := e2.2.1.2.2.1 rfl
      have e2' : x'.tmps[101]?.getD undef = .slice p2 M q2 := (e2.2.2 101 rfl).trans ev2
      clear e2
      have hss := HSA.out w2 p1 q1 p2 q2 hr1 hr2
      clear hw hfr hcl hLo
      refine wpOp_enter (f := 14) (args := #[.slice p1 M q1, .slice p2 M q2]) rfl (wanted_none rfl) (by go_simp) ((hss).mono ?_)
      rintro e wy ⟨rfl, hb⟩
      exact ⟨_, rfl, _, rfl, hb, .known rfl ⟨(fun e => absurd e (by decide)), (fun e => absurd e (by decide)), (fun e => absurd e (by decide)), (fun e => absurd e (by decide))⟩⟩
    · have e1 : x'.tmps[102]?.getD undef = .bool true := (hw 7 (of_decide_eq_true (by kernel_rfl))).is rfl rfl
      clear hw hfr hcl hLo
      refine wpOp_on (v := .bool true) (w' := w2) rfl (wanted_none rfl) ?_ ⟨_, rfl, (Below.refl _ _), .known rfl ⟨(fun e => absurd e (by decide)), (fun e => absurd e (by decide)), (fun e => absurd e (by decide)), (fun e => absurd e (by decide))⟩⟩
      go_simp
    · have eg : x'.tmps[103]?.getD undef = .bool true := (hw 8 (of_decide_eq_true (by kernel_rfl))).is rfl rfl
      have e1 : x'.tmps[15]?.getD undef = .pointer (some ⟨gu, 0, none⟩) := by rw [hfr 15 (slL_far (by kernel_rfl))]; rfl
      obtain ⟨z0, z1, z2, z3, z4⟩ := HCU.out w2 hj
      clear hw hfr hcl hLo
      refine wpOp_on (v := .agg #[.int .i64 a, .int .i64 b, .int .i64 c5, .int .i64 d, .int .i64 e5]) (w' := w2) rfl (guard_is (b := true) rfl rfl eg) ?_ ⟨_, rfl, (Below.refl _ _), .known rfl ⟨(fun e => absurd e (by decide)), (fun e => absurd e (by decide)), (fun e => absurd e (by decide)), (fun e => absurd e (by decide))⟩⟩
      go_simp
    · have eg : x'.tmps[103]?.getD undef = .bool true := (hw 8 (of_decide_eq_true (by kernel_rfl))).is rfl rfl
      have e1 : x'.tmps[9]?.getD undef = .string al := by rw [hfr 9 (slL_far (by kernel_rfl))]; rfl
      clear hw hfr hcl hLo
      refine wpOp_on (v := .string al) (w' := w2) rfl (guard_is (b := true) rfl rfl eg) ?_ ⟨_, rfl, (Below.refl _ _), .known rfl ⟨(fun e => absurd e (by decide)), (fun e => absurd e (by decide)), (fun e => absurd e (by decide)), (fun e => absurd e (by decide))⟩⟩
      go_simp
    · have eg : x'.tmps[103]?.getD undef = .bool true := (hw 8 (of_decide_eq_true (by kernel_rfl))).is rfl rfl
      have e1 : x'.tmps[104]?.getD undef = .agg #[.int .i64 a, .int .i64 b, .int .i64 c5, .int .i64 d, .int .i64 e5] := (hw 9 (of_decide_eq_true (by kernel_rfl))).is rfl rfl
      have e2 : x'.tmps[105]?.getD undef = .string al := (hw 10 (of_decide_eq_true (by kernel_rfl))).is rfl rfl
      clear hw hfr hcl hLo
      refine wpOp_enter (f := 17) (args := #[.agg #[.int .i64 a, .int .i64 b, .int .i64 c5, .int .i64 d, .int .i64 e5], .string al]) rfl (guard_is (b := true) rfl rfl eg) (by go_simp) ((HN1.out w2).mono ?_)
      rintro e wy ⟨rfl, hb⟩
      exact ⟨_, rfl, _, rfl, hb, .known rfl ⟨(fun e => absurd e (by decide)), (fun e => absurd e (by decide)), (fun e => absurd e (by decide)), (fun e => absurd e (by decide))⟩⟩
    · have eg : x'.tmps[103]?.getD undef = .bool true := (hw 8 (of_decide_eq_true (by kernel_rfl))).is rfl rfl
      have e1 : x'.tmps[14]?.getD undef = .pointer (some ⟨gx, 0, none⟩) := by rw [hfr 14 (slL_far (by kernel_rfl))]; rfl
      obtain ⟨z0, z1, z2, z3, z4⟩ := HCX.out w2 hj
      clear hw hfr hcl hLo
      refine wpOp_on (v := .agg #[.int .i64 a, .int .i64 b, .int .i64 c5, .int .i64 d, .int .i64 e5]) (w' := w2) rfl (guard_is (b := true) rfl rfl eg) ?_ ⟨_, rfl, (Below.refl _ _), .known rfl ⟨(fun e => absurd e (by decide)), (fun e => absurd e (by decide)), (fun e => absurd e (by decide)), (fun e => absurd e (by decide))⟩⟩
      go_simp
    · have eg : x'.tmps[103]?.getD undef = .bool true := (hw 8 (of_decide_eq_true (by kernel_rfl))).is rfl rfl
      have e1 : x'.tmps[9]?.getD undef = .string al := by rw [hfr 9 (slL_far (by kernel_rfl))]; rfl
      clear hw hfr hcl hLo
      refine wpOp_on (v := .string al) (w' := w2) rfl (guard_is (b := true) rfl rfl eg) ?_ ⟨_, rfl, (Below.refl _ _), .known rfl ⟨(fun e => absurd e (by decide)), (fun e => absurd e (by decide)), (fun e => absurd e (by decide)), (fun e => absurd e (by decide))⟩⟩
      go_simp
    · have eg : x'.tmps[103]?.getD undef = .bool true := (hw 8 (of_decide_eq_true (by kernel_rfl))).is rfl rfl
      have e1 : x'.tmps[107]?.getD undef = .agg #[.int .i64 a, .int .i64 b, .int .i64 c5, .int .i64 d, .int .i64 e5] := (hw 12 (of_decide_eq_true (by kernel_rfl))).is rfl rfl
      have e2 : x'.tmps[108]?.getD undef = .string al := (hw 13 (of_decide_eq_true (by kernel_rfl))).is rfl rfl
      clear hw hfr hcl hLo
      refine wpOp_enter (f := 18) (args := #[.agg #[.int .i64 a, .int .i64 b, .int .i64 c5, .int .i64 d, .int .i64 e5], .string al]) rfl (guard_is (b := true) rfl rfl eg) (by go_simp) ((HN2.out w2).mono ?_)
      rintro e wy ⟨rfl, hb⟩
      exact ⟨_, rfl, _, rfl, hb, .known rfl ⟨(fun e => absurd e (by decide)), (fun e => absurd e (by decide)), (fun e => absurd e (by decide)), (fun e => absurd e (by decide))⟩⟩
    · have eg : x'.tmps[103]?.getD undef = .bool true := (hw 8 (of_decide_eq_true (by kernel_rfl))).is rfl rfl
      have e1 : x'.tmps[106]?.getD undef = .int .i64 (n1 : Int) := (hw 11 (of_decide_eq_true (by kernel_rfl))).is rfl rfl
      have e2 : x'.tmps[109]?.getD undef = .int .i64 (n1 : Int) := (hw 14 (of_decide_eq_true (by kernel_rfl))).is rfl rfl
      clear hw hfr hcl hLo
      refine wpOp_on (v := .bool true) (w' := w2) rfl (guard_is (b := true) rfl rfl eg) ?_ ⟨_, rfl, (Below.refl _ _), .known rfl ⟨(fun e => absurd e (by decide)), (fun e => absurd e (by decide)), (fun e => absurd e (by decide)), (fun e => absurd e (by decide))⟩⟩
      go_simp
    · have e1 : x'.tmps[103]?.getD undef = .bool true := (hw 8 (of_decide_eq_true (by kernel_rfl))).is rfl rfl
      have e2 : x'.tmps[110]?.getD undef = .bool true := (hw 15 (of_decide_eq_true (by kernel_rfl))).is rfl rfl
      clear hw hfr hcl hLo
      refine wpOp_on (v := .bool true) (w' := w2) rfl (wanted_none rfl) ?_ ⟨_, rfl, (Below.refl _ _), .known rfl ⟨(fun e => absurd e (by decide)), (fun e => absurd e (by decide)), (fun e => absurd e (by decide)), (fun e => absurd e (by decide))⟩⟩
      go_simp
    · have e1 : x'.tmps[111]?.getD undef = .bool true := (hw 16 (of_decide_eq_true (by kernel_rfl))).is rfl rfl
      clear hw hfr hcl hLo
      refine wpOp_on (v := .bool true) (w' := w2) rfl (wanted_none rfl) ?_ ⟨_, rfl, (Below.refl _ _), .known rfl ⟨(fun e => absurd e (by decide)), (fun e => absurd e (by decide)), (fun e => absurd e (by decide)), (fun e => absurd e (by decide))⟩⟩
      go_simp
    · have eg : x'.tmps[112]?.getD undef = .bool true := (hw 17 (of_decide_eq_true (by kernel_rfl))).is rfl rfl
      have e1 : x'.tmps[15]?.getD undef = .pointer (some ⟨gu, 0, none⟩) := by rw [hfr 15 (slL_far (by kernel_rfl))]; rfl
      clear hw hfr hcl hLo
      refine wpOp_on (v := .pointer (some ⟨gu, 0, none⟩)) (w' := w2) rfl (guard_is (b := true) rfl rfl eg) ?_ ⟨_, rfl, (Below.refl _ _), .known rfl ⟨(fun e => absurd e (by decide)), (fun e => absurd e (by decide)), (fun e => absurd e (by decide)), (fun e => absurd e (by decide))⟩⟩
      go_simp
    · have eg : x'.tmps[112]?.getD undef = .bool true := (hw 17 (of_decide_eq_true (by kernel_rfl))).is rfl rfl
      have e1 : x'.tmps[113]?.getD undef = .pointer (some ⟨gu, 0, none⟩) := (hw 18 (of_decide_eq_true (by kernel_rfl))).is rfl rfl
      obtain ⟨z0, z1, z2, z3, z4⟩ := HCU.out w2 hj
      clear hw hfr hcl hLo
      refine wpOp_on (v := .agg #[.int .i64 a, .int .i64 b, .int .i64 c5, .int .i64 d, .int .i64 e5]) (w' := w2) rfl (guard_is (b := true) rfl rfl eg) ?_ ⟨_, rfl, (Below.refl _ _), .known rfl ⟨(fun e => absurd e (by decide)), (fun e => absurd e (by decide)), (fun e => absurd e (by decide)), (fun e => absurd e (by decide))⟩⟩
      go_simp
    · have eg : x'.tmps[112]?.getD undef = .bool true := (hw 17 (of_decide_eq_true (by kernel_rfl))).is rfl rfl
      have e1 : x'.tmps[114]?.getD undef = .agg #[.int .i64 a, .int .i64 b, .int .i64 c5, .int .i64 d, .int .i64 e5] := (hw 19 (of_decide_eq_true (by kernel_rfl))).is rfl rfl
      clear hw hfr hcl hLo
      refine wpOp_enter (f := 19) (args := #[.agg #[.int .i64 a, .int .i64 b, .int .i64 c5, .int .i64 d, .int .i64 e5]]) rfl (guard_is (b := true) rfl rfl eg) (by go_simp) ((HV1.out w2).mono ?_)
      rintro e wy ⟨rfl, hb⟩
      exact ⟨_, rfl, _, rfl, hb, .known rfl ⟨(fun e => absurd e (by decide)), (fun e => absurd e (by decide)), (fun e => absurd e (by decide)), (fun e => absurd e (by decide))⟩⟩
    · have eg : x'.tmps[112]?.getD undef = .bool true := (hw 17 (of_decide_eq_true (by kernel_rfl))).is rfl rfl
      have e1 : x'.tmps[14]?.getD undef = .pointer (some ⟨gx, 0, none⟩) := by rw [hfr 14 (slL_far (by kernel_rfl))]; rfl
      obtain ⟨z0, z1, z2, z3, z4⟩ := HCX.out w2 hj
      clear hw hfr hcl hLo
      refine wpOp_on (v := .agg #[.int .i64 a, .int .i64 b, .int .i64 c5, .int .i64 d, .int .i64 e5]) (w' := w2) rfl (guard_is (b := true) rfl rfl eg) ?_ ⟨_, rfl, (Below.refl _ _), .known rfl ⟨(fun e => absurd e (by decide)), (fun e => absurd e (by decide)), (fun e => absurd e (by decide)), (fun e => absurd e (by decide))⟩⟩
      go_simp
    · have eg : x'.tmps[112]?.getD undef = .bool true := (hw 17 (of_decide_eq_true (by kernel_rfl))).is rfl rfl
      have e1 : x'.tmps[116]?.getD undef = .agg #[.int .i64 a, .int .i64 b, .int .i64 c5, .int .i64 d, .int .i64 e5] := (hw 21 (of_decide_eq_true (by kernel_rfl))).is rfl rfl
      clear hw hfr hcl hLo
      refine wpOp_enter (f := 20) (args := #[.agg #[.int .i64 a, .int .i64 b, .int .i64 c5, .int .i64 d, .int .i64 e5]]) rfl (guard_is (b := true) rfl rfl eg) (by go_simp) ((HV2.out w2).mono ?_)
      rintro e wy ⟨rfl, hb⟩
      exact ⟨_, rfl, _, rfl, hb, .known rfl ⟨(fun e => absurd e (by decide)), (fun e => absurd e (by decide)), (fun e => absurd e (by decide)), (fun e => absurd e (by decide))⟩⟩
    · have eg : x'.tmps[112]?.getD undef = .bool true := (hw 17 (of_decide_eq_true (by kernel_rfl))).is rfl rfl
      have e1 : x'.tmps[115]?.getD undef = .bool V := (hw 20 (of_decide_eq_true (by kernel_rfl))).is rfl rfl
      have e2 : x'.tmps[117]?.getD undef = .bool V := (hw 22 (of_decide_eq_true (by kernel_rfl))).is rfl rfl
      have hVV := HVV.out
      clear hw hfr hcl hLo
      refine wpOp_on (v := .bool true) (w' := w2) rfl (guard_is (b := true) rfl rfl eg) ?_ ⟨_, rfl, (Below.refl _ _), .known rfl ⟨(fun e => absurd e (by decide)), (fun e => absurd e (by decide)), (fun e => absurd e (by decide)), (fun e => absurd e (by decide))⟩⟩
      go_simp
    · have e1 : x'.tmps[112]?.getD undef = .bool true := (hw 17 (of_decide_eq_true (by kernel_rfl))).is rfl rfl
      have e2 : x'.tmps[118]?.getD undef = .bool true := (hw 23 (of_decide_eq_true (by kernel_rfl))).is rfl rfl
      clear hw hfr hcl hLo
      refine wpOp_on (v := .bool true) (w' := w2) rfl (wanted_none rfl) ?_ ⟨_, rfl, (Below.refl _ _), .known rfl ⟨(fun e => absurd e (by decide)), (fun e => absurd e (by decide)), (fun e => absurd e (by decide)), (fun e => absurd e (by decide))⟩⟩
      go_simp
    · have e1 : x'.tmps[119]?.getD undef = .bool true := (hw 24 (of_decide_eq_true (by kernel_rfl))).is rfl rfl
      clear hw hfr hcl hLo
      refine wpOp_on (v := .bool true) (w' := w2) rfl (wanted_none rfl) ?_ ⟨_, rfl, (Below.refl _ _), .known rfl ⟨(fun e => absurd e (by decide)), (fun e => absurd e (by decide)), (fun e => absurd e (by decide)), (fun e => absurd e (by decide))⟩⟩
      go_simp
    · have eg : x'.tmps[120]?.getD undef = .bool true := (hw 25 (of_decide_eq_true (by kernel_rfl))).is rfl rfl
      have e1 : x'.tmps[16]?.getD undef = .pointer (some ⟨ge, 0, none⟩) := by rw [hfr 16 (slL_far (by kernel_rfl))]; rfl
      have z0 := HCE.out w2 hj
      clear hw hfr hcl hLo
      refine wpOp_on (v := .agg #[.int .i64 n]) (w' := w2) rfl (guard_is (b := true) rfl rfl eg) ?_ ⟨_, rfl, (Below.refl _ _), .known rfl ⟨(fun e => absurd e (by decide)), (fun e => absurd e (by decide)), (fun e => absurd e (by decide)), (fun e => absurd e (by decide))⟩⟩
      go_simp
    · have eg : x'.tmps[120]?.getD undef = .bool true := (hw 25 (of_decide_eq_true (by kernel_rfl))).is rfl rfl
      have e1 : x'.tmps[3]?.getD undef = .slice A m c := by rw [hfr 3 (slL_far (by kernel_rfl))]; rfl
      clear hw hfr hcl hLo
      refine wpOp_on (v := .slice A m c) (w' := w2) rfl (guard_is (b := true) rfl rfl eg) ?_ ⟨_, rfl, (Below.refl _ _), .known rfl ⟨(fun e => absurd e (by decide)), (fun e => absurd e (by decide)), (fun e => absurd e (by decide)), (fun e => absurd e (by decide))⟩⟩
      go_simp
    · have eg : x'.tmps[120]?.getD undef = .bool true := (hw 25 (of_decide_eq_true (by kernel_rfl))).is rfl rfl
      have e1 : x'.tmps[121]?.getD undef = .agg #[.int .i64 n] := (hw 26 (of_decide_eq_true (by kernel_rfl))).is rfl rfl
      have e2 : x'.tmps[122]?.getD undef = .slice A m c := (hw 27 (of_decide_eq_true (by kernel_rfl))).is rfl rfl
      clear hw hfr hcl hLo
      refine wpOp_enter (f := 21) (args := #[.agg #[.int .i64 n], .slice A m c]) rfl (guard_is (b := true) rfl rfl eg) (by go_simp) ((HEC.out w2 hj).mono ?_)
      rintro e wy ⟨p, q, rfl, hr, hb⟩
      exact ⟨_, rfl, _, rfl, hb, .loose rfl ⟨(fun e => absurd e (by decide)), (fun e => absurd e (by decide)), (fun _ => ⟨p, q, rfl, hr⟩), (fun e => absurd e (by decide))⟩⟩
    · have eg : x'.tmps[120]?.getD undef = .bool true := (hw 25 (of_decide_eq_true (by kernel_rfl))).is rfl rfl
      have e1 : x'.tmps[1]?.getD undef = .int .i64 n := by rw [hfr 1 (slL_far (by kernel_rfl))]; rfl
      clear hw hfr hcl hLo
      refine wpOp_on (v := .int .i64 n) (w' := w2) rfl (guard_is (b := true) rfl rfl eg) ?_ ⟨_, rfl, (Below.refl _ _), .known rfl ⟨(fun e => absurd e (by decide)), (fun e => absurd e (by decide)), (fun e => absurd e (by decide)), (fun e => absurd e (by decide))⟩⟩
      go_simp
    · have eg : x'.tmps[120]?.getD undef = .bool true := (hw 25 (of_decide_eq_true (by kernel_rfl))).is rfl rfl
      have e1 : x'.tmps[9]?.getD undef = .string al := by rw [hfr 9 (slL_far (by kernel_rfl))]; rfl
      clear hw hfr hcl hLo
      refine wpOp_on (v := .string al) (w' := w2) rfl (guard_is (b := true) rfl rfl eg) ?_ ⟨_, rfl, (Below.refl _ _), .known rfl ⟨(fun e => absurd e (by decide)), (fun e => absurd e (by decide)), (fun e => absurd e (by decide)), (fun e => absurd e (by decide))⟩⟩
      go_simp
    · have eg : x'.tmps[120]?.getD undef = .bool true := (hw 25 (of_decide_eq_true (by kernel_rfl))).is rfl rfl
      have e1 : x'.tmps[125]?.getD undef = .string al := (hw 30 (of_decide_eq_true (by kernel_rfl))).is rfl rfl
      clear hw hfr hcl hLo
      refine wpOp_on (v := .int .i64 (al.size : Int)) (w' := w2) rfl (guard_is (b := true) rfl rfl eg) ?_ ⟨_, rfl, (Below.refl _ _), .known rfl ⟨(fun e => absurd e (by decide)), (fun e => absurd e (by decide)), (fun e => absurd e (by decide)), (fun e => absurd e (by decide))⟩⟩
      go_simp
    · have eg : x'.tmps[120]?.getD undef = .bool true := (hw 25 (of_decide_eq_true (by kernel_rfl))).is rfl rfl
      have e1 : x'.tmps[124]?.getD undef = .int .i64 n := (hw 29 (of_decide_eq_true (by kernel_rfl))).is rfl rfl
      have e2 : x'.tmps[126]?.getD undef = .int .i64 (al.size : Int) := (hw 31 (of_decide_eq_true (by kernel_rfl))).is rfl rfl
      clear hw hfr hcl hLo
      refine wpOp_enter (f := 22) (args := #[.int .i64 n, .int .i64 (al.size : Int)]) rfl (guard_is (b := true) rfl rfl eg) (by go_simp) ((HFX.out w2 hj).mono ?_)
      rintro e wy ⟨p, q, rfl, hr, hb⟩
      exact ⟨_, rfl, _, rfl, hb, .loose rfl ⟨(fun e => absurd e (by decide)), (fun e => absurd e (by decide)), (fun e => absurd e (by decide)), (fun _ => ⟨p, q, rfl, hr⟩)⟩⟩
    · have eg : x'.tmps[120]?.getD undef = .bool true := (hw 25 (of_decide_eq_true (by kernel_rfl))).is rfl rfl
      have e1 := (hw 28 (of_decide_eq_true (by kernel_rfl)))
      have e2 := (hw 32 (of_decide_eq_true (by kernel_rfl)))
      obtain ⟨p1, q1, ev1, hr1⟩ := e1.2.1.2.2.2.1 rfl
      have e1' : x'.tmps[123]?.getD undef = .slice p1 MF q1 := (e1.2.2 123 rfl).trans ev1
      clear e1
      obtain ⟨p2, q2, ev2, hr2⟩ := e2.2.1.2.2.2.2 rfl
      have e2' : x'.tmps[127]?.getD undef = .slice p2 MF q2 := (e2.2.2 127 rfl).trans ev2
      clear e2
      have hss := HSB.out w2 p1 q1 p2 q2 hr1 hr2
      clear hw hfr hcl hLo
      refine wpOp_enter (f := 14) (args := #[.slice p1 MF q1, .slice p2 MF q2]) rfl (guard_is (b := true) rfl rfl eg) (by go_simp) ((hss).mono ?_)
      rintro e wy ⟨rfl, hb⟩
      exact ⟨_, rfl, _, rfl, hb, .known rfl ⟨(fun e => absurd e (by decide)), (fun e => absurd e (by decide)), (fun e => absurd e (by decide)), (fun e => absurd e (by decide))⟩⟩
    · have e1 : x'.tmps[120]?.getD undef = .bool true := (hw 25 (of_decide_eq_true (by kernel_rfl))).is rfl rfl
      have e2 : x'.tmps[128]?.getD undef = .bool true := (hw 33 (of_decide_eq_true (by kernel_rfl))).is rfl rfl
      clear hw hfr hcl hLo
      refine wpOp_on (v := .bool true) (w' := w2) rfl (wanted_none rfl) ?_ ⟨_, rfl, (Below.refl _ _), .known rfl ⟨(fun e => absurd e (by decide)), (fun e => absurd e (by decide)), (fun e => absurd e (by decide)), (fun e => absurd e (by decide))⟩⟩
      go_simp
    · have e1 : x'.tmps[129]?.getD undef = .bool true := (hw 34 (of_decide_eq_true (by kernel_rfl))).is rfl rfl
      clear hw hfr hcl hLo
      refine wpOp_on (v := .bool true) (w' := w2) rfl (wanted_none rfl) ?_ ⟨_, rfl, (Below.refl _ _), .known rfl ⟨(fun e => absurd e (by decide)), (fun e => absurd e (by decide)), (fun e => absurd e (by decide)), (fun e => absurd e (by decide))⟩⟩
      go_simp
    · have eg : x'.tmps[130]?.getD undef = .bool true := (hw 35 (of_decide_eq_true (by kernel_rfl))).is rfl rfl
      have e1 : x'.tmps[16]?.getD undef = .pointer (some ⟨ge, 0, none⟩) := by rw [hfr 16 (slL_far (by kernel_rfl))]; rfl
      have z0 := HCE.out w2 hj
      clear hw hfr hcl hLo
      refine wpOp_on (v := .agg #[.int .i64 n]) (w' := w2) rfl (guard_is (b := true) rfl rfl eg) ?_ ⟨_, rfl, (Below.refl _ _), .known rfl ⟨(fun e => absurd e (by decide)), (fun e => absurd e (by decide)), (fun e => absurd e (by decide)), (fun e => absurd e (by decide))⟩⟩
      go_simp
    · have eg : x'.tmps[130]?.getD undef = .bool true := (hw 35 (of_decide_eq_true (by kernel_rfl))).is rfl rfl
      have e1 : x'.tmps[9]?.getD undef = .string al := by rw [hfr 9 (slL_far (by kernel_rfl))]; rfl
      clear hw hfr hcl hLo
      refine wpOp_on (v := .string al) (w' := w2) rfl (guard_is (b := true) rfl rfl eg) ?_ ⟨_, rfl, (Below.refl _ _), .known rfl ⟨(fun e => absurd e (by decide)), (fun e => absurd e (by decide)), (fun e => absurd e (by decide)), (fun e => absurd e (by decide))⟩⟩
      go_simp
    · have eg : x'.tmps[130]?.getD undef = .bool true := (hw 35 (of_decide_eq_true (by kernel_rfl))).is rfl rfl
      have e1 : x'.tmps[131]?.getD undef = .agg #[.int .i64 n] := (hw 36 (of_decide_eq_true (by kernel_rfl))).is rfl rfl
      have e2 : x'.tmps[132]?.getD undef = .string al := (hw 37 (of_decide_eq_true (by kernel_rfl))).is rfl rfl
      clear hw hfr hcl hLo
      refine wpOp_enter (f := 23) (args := #[.agg #[.int .i64 n], .string al]) rfl (guard_is (b := true) rfl rfl eg) (by go_simp) ((HEN.out w2).mono ?_)
      rintro e wy ⟨rfl, hb⟩
      exact ⟨_, rfl, _, rfl, hb, .known rfl ⟨(fun e => absurd e (by decide)), (fun e => absurd e (by decide)), (fun e => absurd e (by decide)), (fun e => absurd e (by decide))⟩⟩
    · have eg : x'.tmps[130]?.getD undef = .bool true := (hw 35 (of_decide_eq_true (by kernel_rfl))).is rfl rfl
      have e1 : x'.tmps[17]?.getD undef = .int .i64 E := by rw [hfr 17 (slL_far (by kernel_rfl))]; rfl
      clear hw hfr hcl hLo
      refine wpOp_on (v := .int .i64 E) (w' := w2) rfl (guard_is (b := true) rfl rfl eg) ?_ ⟨_, rfl, (Below.refl _ _), .known rfl ⟨(fun e => absurd e (by decide)), (fun e => absurd e (by decide)), (fun e => absurd e (by decide)), (fun e => absurd e (by decide))⟩⟩
      go_simp
    · have eg : x'.tmps[130]?.getD undef = .bool true := (hw 35 (of_decide_eq_true (by kernel_rfl))).is rfl rfl
      have e1 : x'.tmps[133]?.getD undef = .int .i64 E := (hw 38 (of_decide_eq_true (by kernel_rfl))).is rfl rfl
      have e2 : x'.tmps[134]?.getD undef = .int .i64 E := (hw 39 (of_decide_eq_true (by kernel_rfl))).is rfl rfl
      clear hw hfr hcl hLo
      refine wpOp_on (v := .bool true) (w' := w2) rfl (guard_is (b := true) rfl rfl eg) ?_ ⟨_, rfl, (Below.refl _ _), .known rfl ⟨(fun e => absurd e (by decide)), (fun e => absurd e (by decide)), (fun e => absurd e (by decide)), (fun e => absurd e (by decide))⟩⟩
      go_simp
    · have e1 : x'.tmps[130]?.getD undef = .bool true := (hw 35 (of_decide_eq_true (by kernel_rfl))).is rfl rfl
      have e2 : x'.tmps[135]?.getD undef = .bool true := (hw 40 (of_decide_eq_true (by kernel_rfl))).is rfl rfl
      clear hw hfr hcl hLo
      refine wpOp_on (v := .bool true) (w' := w2) rfl (wanted_none rfl) ?_ ⟨_, rfl, (Below.refl _ _), .known rfl ⟨(fun e => absurd e (by decide)), (fun e => absurd e (by decide)), (fun e => absurd e (by decide)), (fun e => absurd e (by decide))⟩⟩
      go_simp
    · have e1 : x'.tmps[136]?.getD undef = .bool true := (hw 41 (of_decide_eq_true (by kernel_rfl))).is rfl rfl
      clear hw hfr hcl hLo
      refine wpOp_on (v := .bool true) (w' := w2) rfl (wanted_none rfl) ?_ ⟨_, rfl, (Below.refl _ _), .known rfl ⟨(fun e => absurd e (by decide)), (fun e => absurd e (by decide)), (fun e => absurd e (by decide)), (fun e => absurd e (by decide))⟩⟩
      go_simp
  case hrest =>
    intro L f wz hL hj hF
    have f42 : f 42 = .bool true := (hF 42 (by omega)).is rfl
    clear hF hL
    simp only [putSlots, slL, List.range, List.range.loop, List.foldl, List.getElem?_cons_zero, List.getElem?_cons_succ, Option.getD_some, List.setIfInBounds_toArray, List.set_cons_succ, List.set_cons_zero, f42]
    clear f42
    have HBZ := Lib.hid (HB0.out.trans (hj.mono HB0.out.size))
    clear hj
    go_wp2_with fail
    go_ret
    exact ⟨rfl, HBZ.out⟩
end Go.Proofs.Ytkcjiogackkecaa
