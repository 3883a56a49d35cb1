/-
  MarkTells, walked: a kind that there is.
-/
import Derived.Test.YtpliknofjgbfjaaGreatDoorMarkRefs2
import Derived.Test.YtpliknofjgbfjaaGreatDoorBookTexts
import Derived.Test.YtpliknofjgbfjaaGreatDoorViews
namespace Go.Proofs.YtpliknofjgbfjaaGreatDoor
open Go.RowKit

theorem readV_form (b : ByteArray) : ∃ (rk : Int) (rs : ByteArray) (re : Int), readV b = .tuple #[.agg #[.int .i64 rk, .string rs], .int .i64 re] := by
  unfold readV
  split
  · exact ⟨_, _, _, rfl⟩
  · split
    · exact ⟨_, _, _, rfl⟩
    · exact ⟨_, _, _, rfl⟩

set_option maxRecDepth 100000 in
set_option maxHeartbeats 8000000 in
theorem mtells_some_yes (k : Int) (A : Option Addr) (m c : Nat) (xs : List ByteArray) (kp : Int) (p : ByteArray) (kq : Int) (q b : ByteArray) (w : World) (hp : p.size ≤ 100) (hq : q.size ≤ 100) (hb : b.size ≤ 200) (hz : sizeK k ≠ 0) (hv : validK kp p = true) (hx : TextsIn w A m c xs) :
    Calls Tryz.prog 3 #[.int .i64 k, .slice A m c, .agg #[.int .i64 kp, .string p], .agg #[.int .i64 kq, .string q], .string b] w fun e w' => e = .returned (.bool true) ∧ Below w.heap.size w w' := by
  have HIN := Lib.hid hx
  obtain ⟨Z, hZ⟩ : ∃ Z, Z = sizeK k := ⟨_, rfl⟩
  have HZ : Hid (∀ w1, Calls Tryz.prog 8 #[.int .i64 k] w1 fun e w' => e = .returned (.int .i64 Z) ∧ w1 = w') := Lib.hid (fun w1 => by rw [hZ]; exact refsize_any k w1)
  have MZ : Hid (∀ w1, Calls Tryz.prog 16 #[.int .i64 k] w1 fun e w' => e = .returned (.int .i64 Z) ∧ Below w1.heap.size w1 w') := Lib.hid (fun w1 => by rw [hZ]; exact (size_any k w1).mono fun e w' h => ⟨h.1, by rw [← h.2]; exact Below.refl _ _⟩)
  obtain ⟨T, hT⟩ : ∃ T, T = printOf k xs := ⟨_, rfl⟩
  have HOV : Hid (ofV k xs = .tuple #[.agg #[.int .i64 k, .string T], .int .i64 0]) := Lib.hid (by rw [hT]; exact ofV_yes hz xs)
  obtain ⟨rk, rs, re, hre⟩ := readV_form b
  have HRd : Hid (∀ w1, Calls Tryz.prog 13 #[.string b] w1 fun e w' => e = .returned (.tuple #[.agg #[.int .i64 rk, .string rs], .int .i64 re]) ∧ Below w1.heap.size w1 w') := Lib.hid (fun w1 => by rw [← hre]; exact read_any6 b w1 (by omega))
  have HRR : Hid (∀ w1, Calls Tryz.prog 14 #[.string b] w1 fun e w' => e = .returned (.tuple #[.agg #[.int .i64 rk, .string rs], .int .i64 re]) ∧ Below w1.heap.size w1 w') := Lib.hid (fun w1 => by rw [← hre]; exact refread_any b w1)
  obtain ⟨L, hL⟩ : ∃ L : ByteArray, L = ⟨(layB kp p).toArray⟩ := ⟨_, rfl⟩
  have HL : Hid (∀ w1, Calls Tryz.prog 11 #[.agg #[.int .i64 kp, .string p]] w1 fun e w' => e = .returned (.tuple #[.string L, .int .i64 0]) ∧ Below w1.heap.size w1 w') := Lib.hid (fun w1 => by
    have := lay_any6 kp p w1
    rw [show layV kp p = _ from layV_yes hv] at this
    rw [hL]; exact this)
  have HLR : Hid (∀ w1, Calls Tryz.prog 15 #[.agg #[.int .i64 kp, .string p]] w1 fun e w' => e = .returned (.string L) ∧ Below w1.heap.size w1 w') := Lib.hid (fun w1 => by
    have h := hv
    simp only [validK, Bool.and_eq_true, decide_eq_true_eq] at h
    have hr := sizeK_range kp
    have hk : 0 ≤ kp ∧ kp < 256 := by
      by_cases h1 : kp = 1
      · omega
      · by_cases h2 : kp = 2
        · omega
        · rw [sizeK_other h1 h2] at h; omega
    rw [hL]
    exact reflay_any kp p w1 hk.1 hk.2 (by omega))
  have HV0 : Hid (∀ w1, Calls Tryz.prog 12 #[.agg #[.int .i64 kp, .string p]] w1 fun e w' => e = .returned (.bool true) ∧ Below w1.heap.size w1 w') := Lib.hid (fun w1 => by rw [← hv]; exact refvalid_any kp p w1)
  have HV : Hid (∀ w1, Calls Tryz.prog 17 #[.agg #[.int .i64 kp, .string p]] w1 fun e w' => e = .returned (.bool true) ∧ Below w1.heap.size w1 w') := Lib.hid (fun w1 => by rw [← hv]; exact valid_any kp p w1)
  obtain ⟨a, ha⟩ : ∃ a, a = cmpK kp p kq q := ⟨_, rfl⟩
  have HA : Hid (∀ w1, Calls Tryz.prog 18 #[.agg #[.int .i64 kp, .string p], .agg #[.int .i64 kq, .string q]] w1 fun e w' => e = .returned (.int .i64 a) ∧ Below w1.heap.size w1 w') := Lib.hid (fun w1 => by rw [ha]; exact compare_any kp p kq q w1)
  have HA2 : Hid (∀ w1, Calls Tryz.prog 19 #[.agg #[.int .i64 kp, .string p], .agg #[.int .i64 kq, .string q]] w1 fun e w' => e = .returned (.int .i64 a) ∧ Below w1.heap.size w1 w') := Lib.hid (fun w1 => by rw [ha]; exact refcmp_any kp p kq q w1)
  have HPP : Hid (∀ w1, Calls Tryz.prog 18 #[.agg #[.int .i64 kp, .string p], .agg #[.int .i64 kp, .string p]] w1 fun e w' => e = .returned (.int .i64 0) ∧ Below w1.heap.size w1 w') := Lib.hid (fun w1 => by rw [← (cmpK_zero kp p kp p).2 ⟨rfl, rfl⟩]; exact compare_any kp p kp p w1)
  obtain ⟨hh, hhh⟩ : ∃ h, h = hashK p := ⟨_, rfl⟩
  have HH : Hid (∀ w1, Calls Tryz.prog 20 #[.agg #[.int .i64 kp, .string p]] w1 fun e w' => e = .returned (.int .i64 hh) ∧ Below w1.heap.size w1 w') := Lib.hid (fun w1 => by rw [hhh]; exact hash_any kp p w1 (by omega))
  have HH2 : Hid (∀ w1, Calls Tryz.prog 21 #[.agg #[.int .i64 kp, .string p]] w1 fun e w' => e = .returned (.int .i64 hh) ∧ Below w1.heap.size w1 w') := Lib.hid (fun w1 => by rw [hhh]; exact refhash_any kp p w1 (by omega))
  obtain ⟨X, hX⟩ : ∃ X : ByteArray, X = ⟨(hexB p.data.toList).toArray⟩ := ⟨_, rfl⟩
  have HT : Hid (∀ w1, Calls Tryz.prog 22 #[.agg #[.int .i64 kp, .string p]] w1 fun e w' => e = .returned (.string X) ∧ Below w1.heap.size w1 w') := Lib.hid (fun w1 => by rw [hX]; exact mtext_any kp p w1 (by omega))
  have HX : Hid (∀ w1, Calls Tryz.prog 23 #[.string p] w1 fun e w' => e = .returned (.string X) ∧ Below w1.heap.size w1 w') := Lib.hid (fun w1 => by rw [hX]; exact refhex_any p w1 (by omega))
  have hZ0 : (Z == 0) = false := beq_eq_false_iff_ne.2 (by rw [hZ]; exact hz)
  have HTT := Lib.hid hT
  have W1s : Below w.heap.size w ((w.alloc (.cells #[.int .i64 kp, .string p] 24)).alloc (.cells #[.int .i64 kq, .string q] 24)) := ((Below.refl _ _).alloc (Nat.le_refl _) _).alloc (by simp) _
  have HW1s := Lib.hid W1s
  clear hx hre hL ha hhh hX hT hZ hz hv W1s
  go_enter Tryz.func3, Tryz.ntmps3
  go_wp2_with fail
  refine (short_any 12 600 A m c xs _ HIN.out.len ((HIN.out.lie.below HW1s.out).more HW1s.out.size) HIN.out.short HIN.out.few (by omega) (by omega) (by omega) (by omega)).mono ?_
  rintro e w1 ⟨⟨r, rfl, hr⟩, hb1⟩
  have bp1 : Blk w1 w.heap.size 24 #[.int .i64 kp, .string p] := ((Blk.new w 24 #[.int .i64 kp, .string p]).alloc _).below hb1 (by simp; omega)
  have bq1 : Blk w1 (w.heap.size + 1) 24 #[.int .i64 kq, .string q] := by
    have := Blk.new (w.alloc (.cells #[.int .i64 kp, .string p] 24)) 24 #[.int .i64 kq, .string q]
    exact Blk.below (by simpa using this) hb1 (by simp)
  have k1 : Below w.heap.size w w1 := HW1s.out.trans (hb1.mono HW1s.out.size)
  clear hb1 HW1s
  cases r with
  | false =>
    clear hr
    go_wp2_with fail
    refine (alive6_any _).mono ?_
    rintro e w2 ⟨rfl, hb2⟩
    go_wp2_with fail
    go_ret
    exact ⟨rfl, k1.trans (hb2.mono k1.size)⟩
  | true =>
    have HR := Lib.hid (hr rfl)
    clear hr
    have c1 := bp1.cell 1
    have c3 := bq1.cell 1
    simp at c1 c3
    go_wp2_with fail
    clear c1 c3
    refine (alive6_any _).mono ?_
    rintro e w2 ⟨rfl, hb2⟩
    have bp2 := bp1.below hb2 bp1.lt
    have bq2 := bq1.below hb2 bq1.lt
    have k2 := k1.trans (hb2.mono k1.size)
    have hm12 : m ≤ 12 := by have := HR.out.1; rw [HIN.out.len] at this; omega
    have HSUM : Hid ((cats xs).length ≤ 600) := Lib.hid (by have := HR.out.2; omega)
    clear hb2 bp1 bq1 k1 HR
    have HO : Hid (∀ (w4 : World) (g cap : Nat), m ≤ cap → Txts w4 w4.heap.size (some ⟨g, 0, none⟩) xs → Calls Tryz.prog 7 #[.int .i64 k, .slice (some ⟨g, 0, none⟩) m cap] w4 fun e w' => e = .returned (.tuple #[.agg #[.int .i64 k, .string T], .int .i64 0]) ∧ Below w4.heap.size w4 w') :=
      Lib.hid (fun w4 g cap hcap h => by
        have := mof_any k _ m cap xs w4 HIN.out.len h hcap (by omega) (by have := HSUM.out; omega)
        rw [HOV.out] at this
        exact this)
    go_wp2_with fail
    refine (lent_any A m c xs _ HIN.out.len ((HIN.out.lie.below k2).more k2.size) (by omega) HIN.out.nil_).mono ?_
    rintro e w3 ⟨g, cap, rfl, hL3, hb3⟩
    have hcap : m ≤ cap := by have := hL3.2.2.1; rw [HIN.out.len] at this; omega
    have bp3 := bp2.below hb3 bp2.lt
    have bq3 := bq2.below hb3 bq2.lt
    have k3 := k2.trans (hb3.mono k2.size)
    have HL3 := Lib.hid hL3
    clear hb3 bp2 bq2 k2 hL3
    go_wp2_with fail
    refine (HO.out _ _ _ hcap HL3.out.txts).mono ?_
    rintro e w4 ⟨rfl, hb4⟩
    have bp4 := bp3.below hb4 bp3.lt
    have bq4 := bq3.below hb4 bq3.lt
    have k4 := k3.trans (hb4.mono k3.size)
    have HL4 := Lib.hid (HL3.out.below hb4)
    clear hb4 bp3 bq3 k3
    go_wp2_with fail
    refine (HZ.out _).mono ?_
    rintro e w4x ⟨rfl, rfl⟩
    have bx4 := Blk.new w4 24 #[.int .i64 k, .string T]
    have bp5 := bp4.alloc (.cells #[.int .i64 k, .string T] 24)
    have bq5 := bq4.alloc (.cells #[.int .i64 k, .string T] 24)
    have k5' : Below w.heap.size w (w4.alloc (.cells #[.int .i64 k, .string T] 24)) := k4.alloc k4.size _
    have HL5' := Lib.hid (HL4.out.below ((Below.refl _ _).alloc (Nat.le_refl _) (.cells #[.int .i64 k, .string T] 24)))
    go_upto_region 9 with fail
    obtain ⟨W4, hW4⟩ : ∃ W4, W4 = w4.alloc (.cells #[.int .i64 k, .string T] 24) := ⟨_, rfl⟩
    rw [← hW4] at bx4 bp5 bq5 k5' HL5'
    rw [← hW4]
    clear hW4 bp4 bq4 k4 HL4
    have HBP := Lib.hid bp5
    have HBQ := Lib.hid bq5
    have HK5 := Lib.hid k5'
    have HC4 : Hid (∀ w', Below W4.heap.size W4 w' → w'.cell? ⟨w4.heap.size, 0, none⟩ = some (.int .i64 k) ∧ w'.cell? ⟨w4.heap.size, 1, none⟩ = some (.string T)) := Lib.hid (fun w' hw => ⟨(bx4.below hw bx4.lt).cell 0, (bx4.below hw bx4.lt).cell 1⟩)
    obtain ⟨JJ, hJJ⟩ : ∃ JJ, JJ = joined xs := ⟨_, rfl⟩
    have HJN : Hid (∀ w', Below W4.heap.size W4 w' → Calls Tryz.prog 10 #[.slice A m c] w' fun e w'' => e = .returned (.string JJ) ∧ Below w'.heap.size w' w'') := Lib.hid (fun w' hw => by
      have hbw := HK5.out.trans (hw.mono HK5.out.size)
      rw [hJJ]
      exact (join_any A m c xs w' HIN.out.len ((HIN.out.lie.below hbw).more hbw.size) (by omega) (by have := HSUM.out; omega)).mono fun e w'' h => ⟨h.1, by rw [← h.2]; exact Below.refl _ _⟩)
    have HRP : Hid (∀ w', Calls Tryz.prog 9 #[.int .i64 k, .string JJ] w' fun e w'' => e = .returned (.agg #[.int .i64 k, .string T]) ∧ Below w'.heap.size w' w'') := Lib.hid (fun w' => by
      rw [HTT.out, hJJ]
      exact refprint_any k (joined xs) xs w' (by rw [joined_size]; have := HSUM.out; omega) (joined_list xs))
    have h0J : Below W4.heap.size W4 W4.drew := below_drew (Below.refl _ _)
    clear bx4 bp5 bq5 k5' hJJ
    refine wp_region_grow (Below W4.heap.size W4) (by kernel_rfl) (by kernel_rfl) h0J ?_
    apply grow_step
    · intro w' hw K hK
      go_simp
      exact hK
    · exact ⟨_, rfl, Nat.le_of_ble_eq_true rfl⟩
    · exact ⟨_, h0J⟩
    apply grow_step
    · intro w' hw K hK
      go_simp
      exact hK
    · exact ⟨_, rfl, Nat.le_of_ble_eq_true rfl⟩
    · exact ⟨_, h0J⟩
    apply grow_step
    · intro w' hw K hK
      go_simp
      exact hK
    · exact ⟨_, rfl, Nat.le_of_ble_eq_true rfl⟩
    · exact ⟨_, h0J⟩
    apply grow_step
    · intro w' hw K hK
      obtain ⟨c0, c1⟩ := HC4.out w' hw
      go_simp
      exact hK
    · exact ⟨_, rfl, Nat.le_of_ble_eq_true rfl⟩
    · exact ⟨_, h0J⟩
    apply grow_step
    · intro w' hw K hK
      go_simp
      exact hK
    · exact ⟨_, rfl, Nat.le_of_ble_eq_true rfl⟩
    · exact ⟨_, h0J⟩
    apply grow_step
    · intro w' hw K hK
      go_simp
      exact hK
    · exact ⟨_, rfl, Nat.le_of_ble_eq_true rfl⟩
    · exact ⟨_, h0J⟩
    refine grow_call (fun w' hw => (HJN.out w' hw).mono fun e w'' ⟨he, hb⟩ => ⟨he, hw.trans (hb.mono hw.size)⟩) (by go_simp) (fun w' hw => by go_simp) ?_
    simp only [Act.put, List.setIfInBounds_toArray, List.set_cons_succ, List.set_cons_zero]
    refine grow_call (fun w' hw => (HRP.out w').mono fun e w'' ⟨he, hb⟩ => ⟨he, hw.trans (hb.mono hw.size)⟩) (by go_simp) (fun w' hw => by go_simp) ?_
    simp only [Act.put, List.setIfInBounds_toArray, List.set_cons_succ, List.set_cons_zero]
    apply grow_step
    · intro w' hw K hK
      go_simp
      exact hK
    · exact ⟨_, rfl, Nat.le_of_ble_eq_true rfl⟩
    · exact ⟨_, h0J⟩
    apply grow_step
    · intro w' hw K hK
      go_simp
      exact hK
    · exact ⟨_, rfl, Nat.le_of_ble_eq_true rfl⟩
    · exact ⟨_, h0J⟩
    refine grow_nil ?_
    intro w5 hw5
    have bp5 := HBP.out.below hw5 HBP.out.lt
    have bq5 := HBQ.out.below hw5 HBQ.out.lt
    have k5 := HK5.out.trans (hw5.mono HK5.out.size)
    have HL5 := Lib.hid (HL5'.out.below hw5)
    clear hw5 h0J HJN HRP HC4 HBP HBQ HK5 HL5'
    have c0 := bp5.cell 0
    have c1 := bp5.cell 1
    simp at c0 c1
    go_wp2_with fail
    refine (HL.out _).mono ?_
    rintro e w6 ⟨rfl, hb6⟩
    have bp6 := bp5.below hb6 bp5.lt
    have bq6 := bq5.below hb6 bq5.lt
    have k6 := k5.trans (hb6.mono k5.size)
    have HL6 := Lib.hid (HL5.out.below hb6)
    clear hb6 bp5 bq5 k5 c0 c1 HL5
    have c0 := bp6.cell 0
    have c1 := bp6.cell 1
    simp at c0 c1
    go_wp2_with fail
    refine (HV0.out _).mono ?_
    rintro e w7 ⟨rfl, hb7⟩
    have bp7 := bp6.below hb7 bp6.lt
    have bq7 := bq6.below hb7 bq6.lt
    have k7 := k6.trans (hb7.mono k6.size)
    have HL7 := Lib.hid (HL6.out.below hb7)
    clear hb7 bp6 bq6 k6 c0 c1 HL6
    go_wp2_with fail
    refine (HRd.out _).mono ?_
    rintro e w8 ⟨rfl, hb8⟩
    have bp8 := bp7.below hb8 bp7.lt
    have bq8 := bq7.below hb8 bq7.lt
    have k8 := k7.trans (hb8.mono k7.size)
    have HL8 := Lib.hid (HL7.out.below hb8)
    clear hb8 bp7 bq7 k7 HL7
    go_wp2_with fail
    refine (HRR.out _).mono ?_
    rintro e w9 ⟨rfl, hb9⟩
    have bu9 : Blk w9 w8.heap.size 24 #[.int .i64 rk, .string rs] := (Blk.new w8 _ _).below hb9 (by simp)
    have bp9 := (bp8.alloc (.cells #[.int .i64 rk, .string rs] 24)).below hb9 (by have := bp8.lt; simp; omega)
    have bq9 := (bq8.alloc (.cells #[.int .i64 rk, .string rs] 24)).below hb9 (by have := bq8.lt; simp; omega)
    have k9 : Below w.heap.size w w9 := (k8.alloc k8.size _).trans (hb9.mono (by have := k8.size; simp; omega))
    have HL9 := Lib.hid ((HL8.out.below ((Below.refl _ _).alloc (Nat.le_refl _) (.cells #[.int .i64 rk, .string rs] 24))).below hb9)
    clear hb9 bp8 bq8 k8 HL8
    have bw := Blk.new w9 24 #[.int .i64 rk, .string rs]
    have bu := bu9.alloc (.cells #[.int .i64 rk, .string rs] 24)
    have bp := bp9.alloc (.cells #[.int .i64 rk, .string rs] 24)
    have bq := bq9.alloc (.cells #[.int .i64 rk, .string rs] 24)
    have kk : Below w.heap.size w (w9.alloc (.cells #[.int .i64 rk, .string rs] 24)) := k9.alloc k9.size _
    have HLL := Lib.hid (HL9.out.below ((Below.refl _ _).alloc (Nat.le_refl _) (.cells #[.int .i64 rk, .string rs] 24)))
    clear bu9 bp9 bq9 k9 HL9
    go_upto_region 15 with fail
    obtain ⟨W9, hW9⟩ : ∃ W9, W9 = w9.alloc (.cells #[.int .i64 rk, .string rs] 24) := ⟨_, rfl⟩
    rw [← hW9] at bw bu bp bq kk HLL
    rw [← hW9]
    clear hW9
    have c0 := bp.cell 0
    have c1 := bp.cell 1
    simp at c0 c1
    go_wp2_with fail
    refine (HLR.out _).mono ?_
    rintro e W6 ⟨rfl, hb10⟩
    clear c0 c1
    have bw := bw.below hb10 bw.lt
    have bu := bu.below hb10 bu.lt
    have bp := bp.below hb10 bp.lt
    have bq := bq.below hb10 bq.lt
    have kk := kk.trans (hb10.mono kk.size)
    have HLL := Lib.hid (HLL.out.below hb10)
    clear hb10
    have HBW := Lib.hid kk
    have HC : Hid (∀ w', Below W6.heap.size W6 w' → w'.cell? ⟨w.heap.size, 0, none⟩ = some (.int .i64 kp) ∧ w'.cell? ⟨w.heap.size, 1, none⟩ = some (.string p) ∧ w'.cell? ⟨w.heap.size + 1, 0, none⟩ = some (.int .i64 kq) ∧ w'.cell? ⟨w.heap.size + 1, 1, none⟩ = some (.string q) ∧ w'.cell? ⟨w8.heap.size, 0, none⟩ = some (.int .i64 rk) ∧ w'.cell? ⟨w8.heap.size, 1, none⟩ = some (.string rs) ∧ w'.cell? ⟨w9.heap.size, 0, none⟩ = some (.int .i64 rk) ∧ w'.cell? ⟨w9.heap.size, 1, none⟩ = some (.string rs)) := Lib.hid (fun w' hw =>
      ⟨(bp.below hw bp.lt).cell 0, (bp.below hw bp.lt).cell 1, (bq.below hw bq.lt).cell 0, (bq.below hw bq.lt).cell 1, (bu.below hw bu.lt).cell 0, (bu.below hw bu.lt).cell 1, (bw.below hw bw.lt).cell 0, (bw.below hw bw.lt).cell 1⟩)
    have HST : Hid (∀ w', Below W6.heap.size W6 w' → Calls Tryz.prog 24 #[.slice (some ⟨g, 0, none⟩) m cap, .slice A m c] w' fun e w'' => e = .returned (.bool true) ∧ Below w'.heap.size w' w'') := Lib.hid (fun w' hw => by
      have hbw := HBW.out.trans (hw.mono HBW.out.size)
      exact (stays_any g cap A m c xs _ w' HIN.out.len (HLL.out.below hw) ((HIN.out.lie.below hbw).more hbw.size) (by omega)).mono fun e w'' ⟨he, n, hn⟩ => ⟨he, by rw [hn]; exact below_drewN (Below.refl _ _) _⟩)
    have h0J : Below W6.heap.size W6 W6.drew := below_drew (Below.refl _ _)
    clear bw bu bp bq kk HZ HO HL HRd HRR HV0 HLR
    go_upto_region 17 with fail
    refine wp_region_grow (Below W6.heap.size W6) (by kernel_rfl) (by kernel_rfl) h0J ?_
    apply grow_step
    · intro w' hw K hK
      go_simp
      exact hK
    · exact ⟨_, rfl, Nat.le_of_ble_eq_true rfl⟩
    · exact ⟨_, h0J⟩
    refine grow_call (fun w' hw => (MZ.out w').mono fun e w'' ⟨he, hb⟩ => ⟨he, hw.trans (hb.mono hw.size)⟩) (by simp [Region.wanted]) (fun w' hw => by go_simp) ?_
    simp only [Act.put, List.setIfInBounds_toArray, List.set_cons_succ, List.set_cons_zero]
    apply grow_step
    · intro w' hw K hK
      go_simp
      exact hK
    · exact ⟨_, rfl, Nat.le_of_ble_eq_true rfl⟩
    · exact ⟨_, h0J⟩
    apply grow_step
    · intro w' hw K hK
      go_simp
      exact hK
    · exact ⟨_, rfl, Nat.le_of_ble_eq_true rfl⟩
    · exact ⟨_, h0J⟩
    apply grow_step
    · intro w' hw K hK
      go_simp
      exact hK
    · exact ⟨_, rfl, Nat.le_of_ble_eq_true rfl⟩
    · exact ⟨_, h0J⟩
    apply grow_step
    · intro w' hw K hK
      obtain ⟨c0, c1, c2, c3, c4, c5, c6, c7⟩ := HC.out w' hw
      go_simp
      exact hK
    · exact ⟨_, rfl, Nat.le_of_ble_eq_true rfl⟩
    · exact ⟨_, h0J⟩
    refine grow_call (fun w' hw => (HV.out w').mono fun e w'' ⟨he, hb⟩ => ⟨he, hw.trans (hb.mono hw.size)⟩) (by go_simp) (fun w' hw => by go_simp) ?_
    simp only [Act.put, List.setIfInBounds_toArray, List.set_cons_succ, List.set_cons_zero]
    apply grow_step
    · intro w' hw K hK
      go_simp
      exact hK
    · exact ⟨_, rfl, Nat.le_of_ble_eq_true rfl⟩
    · exact ⟨_, h0J⟩
    apply grow_step
    · intro w' hw K hK
      go_simp
      exact hK
    · exact ⟨_, rfl, Nat.le_of_ble_eq_true rfl⟩
    · exact ⟨_, h0J⟩
    apply grow_step
    · intro w' hw K hK
      go_simp
      exact hK
    · exact ⟨_, rfl, Nat.le_of_ble_eq_true rfl⟩
    · exact ⟨_, h0J⟩
    apply grow_step
    · intro w' hw K hK
      go_simp
      exact hK
    · exact ⟨_, rfl, Nat.le_of_ble_eq_true rfl⟩
    · exact ⟨_, h0J⟩
    apply grow_step
    · intro w' hw K hK
      obtain ⟨c0, c1, c2, c3, c4, c5, c6, c7⟩ := HC.out w' hw
      go_simp
      exact hK
    · exact ⟨_, rfl, Nat.le_of_ble_eq_true rfl⟩
    · exact ⟨_, h0J⟩
    apply grow_step
    · intro w' hw K hK
      obtain ⟨c0, c1, c2, c3, c4, c5, c6, c7⟩ := HC.out w' hw
      go_simp
      exact hK
    · exact ⟨_, rfl, Nat.le_of_ble_eq_true rfl⟩
    · exact ⟨_, h0J⟩
    apply grow_step
    · intro w' hw K hK
      go_simp
      exact hK
    · exact ⟨_, rfl, Nat.le_of_ble_eq_true rfl⟩
    · exact ⟨_, h0J⟩
    apply grow_step
    · intro w' hw K hK
      go_simp
      exact hK
    · exact ⟨_, rfl, Nat.le_of_ble_eq_true rfl⟩
    · exact ⟨_, h0J⟩
    apply grow_step
    · intro w' hw K hK
      go_simp
      exact hK
    · exact ⟨_, rfl, Nat.le_of_ble_eq_true rfl⟩
    · exact ⟨_, h0J⟩
    apply grow_step
    · intro w' hw K hK
      go_simp
      exact hK
    · exact ⟨_, rfl, Nat.le_of_ble_eq_true rfl⟩
    · exact ⟨_, h0J⟩
    apply grow_step
    · intro w' hw K hK
      go_simp
      exact hK
    · exact ⟨_, rfl, Nat.le_of_ble_eq_true rfl⟩
    · exact ⟨_, h0J⟩
    apply grow_step
    · intro w' hw K hK
      go_simp
      exact hK
    · exact ⟨_, rfl, Nat.le_of_ble_eq_true rfl⟩
    · exact ⟨_, h0J⟩
    apply grow_step
    · intro w' hw K hK
      go_simp
      exact hK
    · exact ⟨_, rfl, Nat.le_of_ble_eq_true rfl⟩
    · exact ⟨_, h0J⟩
    apply grow_step
    · intro w' hw K hK
      go_simp
      exact hK
    · exact ⟨_, rfl, Nat.le_of_ble_eq_true rfl⟩
    · exact ⟨_, h0J⟩
    apply grow_step
    · intro w' hw K hK
      obtain ⟨c0, c1, c2, c3, c4, c5, c6, c7⟩ := HC.out w' hw
      go_simp
      exact hK
    · exact ⟨_, rfl, Nat.le_of_ble_eq_true rfl⟩
    · exact ⟨_, h0J⟩
    apply grow_step
    · intro w' hw K hK
      obtain ⟨c0, c1, c2, c3, c4, c5, c6, c7⟩ := HC.out w' hw
      go_simp
      exact hK
    · exact ⟨_, rfl, Nat.le_of_ble_eq_true rfl⟩
    · exact ⟨_, h0J⟩
    refine grow_call (fun w' hw => (HA.out w').mono fun e w'' ⟨he, hb⟩ => ⟨he, hw.trans (hb.mono hw.size)⟩) (by go_simp) (fun w' hw => by go_simp) ?_
    simp only [Act.put, List.setIfInBounds_toArray, List.set_cons_succ, List.set_cons_zero]
    apply grow_step
    · intro w' hw K hK
      obtain ⟨c0, c1, c2, c3, c4, c5, c6, c7⟩ := HC.out w' hw
      go_simp
      exact hK
    · exact ⟨_, rfl, Nat.le_of_ble_eq_true rfl⟩
    · exact ⟨_, h0J⟩
    apply grow_step
    · intro w' hw K hK
      obtain ⟨c0, c1, c2, c3, c4, c5, c6, c7⟩ := HC.out w' hw
      go_simp
      exact hK
    · exact ⟨_, rfl, Nat.le_of_ble_eq_true rfl⟩
    · exact ⟨_, h0J⟩
    refine grow_call (fun w' hw => (HA2.out w').mono fun e w'' ⟨he, hb⟩ => ⟨he, hw.trans (hb.mono hw.size)⟩) (by go_simp) (fun w' hw => by go_simp) ?_
    simp only [Act.put, List.setIfInBounds_toArray, List.set_cons_succ, List.set_cons_zero]
    apply grow_step
    · intro w' hw K hK
      go_simp
      exact hK
    · exact ⟨_, rfl, Nat.le_of_ble_eq_true rfl⟩
    · exact ⟨_, h0J⟩
    apply grow_step
    · intro w' hw K hK
      go_simp
      exact hK
    · exact ⟨_, rfl, Nat.le_of_ble_eq_true rfl⟩
    · exact ⟨_, h0J⟩
    apply grow_step
    · intro w' hw K hK
      go_simp
      exact hK
    · exact ⟨_, rfl, Nat.le_of_ble_eq_true rfl⟩
    · exact ⟨_, h0J⟩
    apply grow_step
    · intro w' hw K hK
      obtain ⟨c0, c1, c2, c3, c4, c5, c6, c7⟩ := HC.out w' hw
      go_simp
      exact hK
    · exact ⟨_, rfl, Nat.le_of_ble_eq_true rfl⟩
    · exact ⟨_, h0J⟩
    apply grow_step
    · intro w' hw K hK
      obtain ⟨c0, c1, c2, c3, c4, c5, c6, c7⟩ := HC.out w' hw
      go_simp
      exact hK
    · exact ⟨_, rfl, Nat.le_of_ble_eq_true rfl⟩
    · exact ⟨_, h0J⟩
    refine grow_call (fun w' hw => (HPP.out w').mono fun e w'' ⟨he, hb⟩ => ⟨he, hw.trans (hb.mono hw.size)⟩) (by go_simp) (fun w' hw => by go_simp) ?_
    simp only [Act.put, List.setIfInBounds_toArray, List.set_cons_succ, List.set_cons_zero]
    apply grow_step
    · intro w' hw K hK
      go_simp
      exact hK
    · exact ⟨_, rfl, Nat.le_of_ble_eq_true rfl⟩
    · exact ⟨_, h0J⟩
    apply grow_step
    · intro w' hw K hK
      go_simp
      exact hK
    · exact ⟨_, rfl, Nat.le_of_ble_eq_true rfl⟩
    · exact ⟨_, h0J⟩
    apply grow_step
    · intro w' hw K hK
      go_simp
      exact hK
    · exact ⟨_, rfl, Nat.le_of_ble_eq_true rfl⟩
    · exact ⟨_, h0J⟩
    apply grow_step
    · intro w' hw K hK
      obtain ⟨c0, c1, c2, c3, c4, c5, c6, c7⟩ := HC.out w' hw
      go_simp
      exact hK
    · exact ⟨_, rfl, Nat.le_of_ble_eq_true rfl⟩
    · exact ⟨_, h0J⟩
    refine grow_call (fun w' hw => (HH.out w').mono fun e w'' ⟨he, hb⟩ => ⟨he, hw.trans (hb.mono hw.size)⟩) (by go_simp) (fun w' hw => by go_simp) ?_
    simp only [Act.put, List.setIfInBounds_toArray, List.set_cons_succ, List.set_cons_zero]
    apply grow_step
    · intro w' hw K hK
      obtain ⟨c0, c1, c2, c3, c4, c5, c6, c7⟩ := HC.out w' hw
      go_simp
      exact hK
    · exact ⟨_, rfl, Nat.le_of_ble_eq_true rfl⟩
    · exact ⟨_, h0J⟩
    refine grow_call (fun w' hw => (HH2.out w').mono fun e w'' ⟨he, hb⟩ => ⟨he, hw.trans (hb.mono hw.size)⟩) (by go_simp) (fun w' hw => by go_simp) ?_
    simp only [Act.put, List.setIfInBounds_toArray, List.set_cons_succ, List.set_cons_zero]
    apply grow_step
    · intro w' hw K hK
      go_simp
      exact hK
    · exact ⟨_, rfl, Nat.le_of_ble_eq_true rfl⟩
    · exact ⟨_, h0J⟩
    apply grow_step
    · intro w' hw K hK
      go_simp
      exact hK
    · exact ⟨_, rfl, Nat.le_of_ble_eq_true rfl⟩
    · exact ⟨_, h0J⟩
    apply grow_step
    · intro w' hw K hK
      go_simp
      exact hK
    · exact ⟨_, rfl, Nat.le_of_ble_eq_true rfl⟩
    · exact ⟨_, h0J⟩
    apply grow_step
    · intro w' hw K hK
      obtain ⟨c0, c1, c2, c3, c4, c5, c6, c7⟩ := HC.out w' hw
      go_simp
      exact hK
    · exact ⟨_, rfl, Nat.le_of_ble_eq_true rfl⟩
    · exact ⟨_, h0J⟩
    refine grow_call (fun w' hw => (HT.out w').mono fun e w'' ⟨he, hb⟩ => ⟨he, hw.trans (hb.mono hw.size)⟩) (by go_simp) (fun w' hw => by go_simp) ?_
    simp only [Act.put, List.setIfInBounds_toArray, List.set_cons_succ, List.set_cons_zero]
    apply grow_step
    · intro w' hw K hK
      go_simp
      exact hK
    · exact ⟨_, rfl, Nat.le_of_ble_eq_true rfl⟩
    · exact ⟨_, h0J⟩
    apply grow_step
    · intro w' hw K hK
      obtain ⟨c0, c1, c2, c3, c4, c5, c6, c7⟩ := HC.out w' hw
      go_simp
      exact hK
    · exact ⟨_, rfl, Nat.le_of_ble_eq_true rfl⟩
    · exact ⟨_, h0J⟩
    refine grow_call (fun w' hw => (HX.out w').mono fun e w'' ⟨he, hb⟩ => ⟨he, hw.trans (hb.mono hw.size)⟩) (by go_simp) (fun w' hw => by go_simp) ?_
    simp only [Act.put, List.setIfInBounds_toArray, List.set_cons_succ, List.set_cons_zero]
    apply grow_step
    · intro w' hw K hK
      go_simp
      exact hK
    · exact ⟨_, rfl, Nat.le_of_ble_eq_true rfl⟩
    · exact ⟨_, h0J⟩
    apply grow_step
    · intro w' hw K hK
      go_simp
      exact hK
    · exact ⟨_, rfl, Nat.le_of_ble_eq_true rfl⟩
    · exact ⟨_, h0J⟩
    apply grow_step
    · intro w' hw K hK
      go_simp
      exact hK
    · exact ⟨_, rfl, Nat.le_of_ble_eq_true rfl⟩
    · exact ⟨_, h0J⟩
    apply grow_step
    · intro w' hw K hK
      go_simp
      exact hK
    · exact ⟨_, rfl, Nat.le_of_ble_eq_true rfl⟩
    · exact ⟨_, h0J⟩
    apply grow_step
    · intro w' hw K hK
      go_simp
      exact hK
    · exact ⟨_, rfl, Nat.le_of_ble_eq_true rfl⟩
    · exact ⟨_, h0J⟩
    refine grow_call (fun w' hw => (HST.out w' hw).mono fun e w'' ⟨he, hb⟩ => ⟨he, hw.trans (hb.mono hw.size)⟩) (by go_simp) (fun w' hw => by go_simp) ?_
    simp only [Act.put, List.setIfInBounds_toArray, List.set_cons_succ, List.set_cons_zero]
    apply grow_step
    · intro w' hw K hK
      go_simp
      exact hK
    · exact ⟨_, rfl, Nat.le_of_ble_eq_true rfl⟩
    · exact ⟨_, h0J⟩
    apply grow_step
    · intro w' hw K hK
      go_simp
      exact hK
    · exact ⟨_, rfl, Nat.le_of_ble_eq_true rfl⟩
    · exact ⟨_, h0J⟩
    refine grow_nil ?_
    intro w7 hw7
    go_wp2_with fail
    go_ret
    exact ⟨rfl, HBW.out.trans (hw7.mono HBW.out.size)⟩

set_option maxRecDepth 100000 in
set_option maxHeartbeats 8000000 in
theorem mtells_some_no (k : Int) (A : Option Addr) (m c : Nat) (xs : List ByteArray) (kp : Int) (p : ByteArray) (kq : Int) (q b : ByteArray) (w : World) (hp : p.size ≤ 100) (hq : q.size ≤ 100) (hb : b.size ≤ 200) (hz : sizeK k ≠ 0) (hv : validK kp p = false) (hx : TextsIn w A m c xs) :
    Calls Tryz.prog 3 #[.int .i64 k, .slice A m c, .agg #[.int .i64 kp, .string p], .agg #[.int .i64 kq, .string q], .string b] w fun e w' => e = .returned (.bool true) ∧ Below w.heap.size w w' := by
  have HIN := Lib.hid hx
  obtain ⟨Z, hZ⟩ : ∃ Z, Z = sizeK k := ⟨_, rfl⟩
  have HZ : Hid (∀ w1, Calls Tryz.prog 8 #[.int .i64 k] w1 fun e w' => e = .returned (.int .i64 Z) ∧ w1 = w') := Lib.hid (fun w1 => by rw [hZ]; exact refsize_any k w1)
  have MZ : Hid (∀ w1, Calls Tryz.prog 16 #[.int .i64 k] w1 fun e w' => e = .returned (.int .i64 Z) ∧ Below w1.heap.size w1 w') := Lib.hid (fun w1 => by rw [hZ]; exact (size_any k w1).mono fun e w' h => ⟨h.1, by rw [← h.2]; exact Below.refl _ _⟩)
  obtain ⟨T, hT⟩ : ∃ T, T = printOf k xs := ⟨_, rfl⟩
  have HOV : Hid (ofV k xs = .tuple #[.agg #[.int .i64 k, .string T], .int .i64 0]) := Lib.hid (by rw [hT]; exact ofV_yes hz xs)
  obtain ⟨rk, rs, re, hre⟩ := readV_form b
  have HRd : Hid (∀ w1, Calls Tryz.prog 13 #[.string b] w1 fun e w' => e = .returned (.tuple #[.agg #[.int .i64 rk, .string rs], .int .i64 re]) ∧ Below w1.heap.size w1 w') := Lib.hid (fun w1 => by rw [← hre]; exact read_any6 b w1 (by omega))
  have HRR : Hid (∀ w1, Calls Tryz.prog 14 #[.string b] w1 fun e w' => e = .returned (.tuple #[.agg #[.int .i64 rk, .string rs], .int .i64 re]) ∧ Below w1.heap.size w1 w') := Lib.hid (fun w1 => by rw [← hre]; exact refread_any b w1)
  obtain ⟨L, hL⟩ : ∃ L : ByteArray, L = .empty := ⟨_, rfl⟩
  have HL : Hid (∀ w1, Calls Tryz.prog 11 #[.agg #[.int .i64 kp, .string p]] w1 fun e w' => e = .returned (.tuple #[.string .empty, .int .i64 1]) ∧ Below w1.heap.size w1 w') := Lib.hid (fun w1 => by
    have := lay_any6 kp p w1
    rw [show layV kp p = _ from if_neg (by rw [hv]; decide)] at this
    exact this)
  have HV0 : Hid (∀ w1, Calls Tryz.prog 12 #[.agg #[.int .i64 kp, .string p]] w1 fun e w' => e = .returned (.bool false) ∧ Below w1.heap.size w1 w') := Lib.hid (fun w1 => by rw [← hv]; exact refvalid_any kp p w1)
  have HV : Hid (∀ w1, Calls Tryz.prog 17 #[.agg #[.int .i64 kp, .string p]] w1 fun e w' => e = .returned (.bool false) ∧ Below w1.heap.size w1 w') := Lib.hid (fun w1 => by rw [← hv]; exact valid_any kp p w1)
  obtain ⟨a, ha⟩ : ∃ a, a = cmpK kp p kq q := ⟨_, rfl⟩
  have HA : Hid (∀ w1, Calls Tryz.prog 18 #[.agg #[.int .i64 kp, .string p], .agg #[.int .i64 kq, .string q]] w1 fun e w' => e = .returned (.int .i64 a) ∧ Below w1.heap.size w1 w') := Lib.hid (fun w1 => by rw [ha]; exact compare_any kp p kq q w1)
  have HA2 : Hid (∀ w1, Calls Tryz.prog 19 #[.agg #[.int .i64 kp, .string p], .agg #[.int .i64 kq, .string q]] w1 fun e w' => e = .returned (.int .i64 a) ∧ Below w1.heap.size w1 w') := Lib.hid (fun w1 => by rw [ha]; exact refcmp_any kp p kq q w1)
  have HPP : Hid (∀ w1, Calls Tryz.prog 18 #[.agg #[.int .i64 kp, .string p], .agg #[.int .i64 kp, .string p]] w1 fun e w' => e = .returned (.int .i64 0) ∧ Below w1.heap.size w1 w') := Lib.hid (fun w1 => by rw [← (cmpK_zero kp p kp p).2 ⟨rfl, rfl⟩]; exact compare_any kp p kp p w1)
  obtain ⟨hh, hhh⟩ : ∃ h, h = hashK p := ⟨_, rfl⟩
  have HH : Hid (∀ w1, Calls Tryz.prog 20 #[.agg #[.int .i64 kp, .string p]] w1 fun e w' => e = .returned (.int .i64 hh) ∧ Below w1.heap.size w1 w') := Lib.hid (fun w1 => by rw [hhh]; exact hash_any kp p w1 (by omega))
  have HH2 : Hid (∀ w1, Calls Tryz.prog 21 #[.agg #[.int .i64 kp, .string p]] w1 fun e w' => e = .returned (.int .i64 hh) ∧ Below w1.heap.size w1 w') := Lib.hid (fun w1 => by rw [hhh]; exact refhash_any kp p w1 (by omega))
  obtain ⟨X, hX⟩ : ∃ X : ByteArray, X = ⟨(hexB p.data.toList).toArray⟩ := ⟨_, rfl⟩
  have HT : Hid (∀ w1, Calls Tryz.prog 22 #[.agg #[.int .i64 kp, .string p]] w1 fun e w' => e = .returned (.string X) ∧ Below w1.heap.size w1 w') := Lib.hid (fun w1 => by rw [hX]; exact mtext_any kp p w1 (by omega))
  have HX : Hid (∀ w1, Calls Tryz.prog 23 #[.string p] w1 fun e w' => e = .returned (.string X) ∧ Below w1.heap.size w1 w') := Lib.hid (fun w1 => by rw [hX]; exact refhex_any p w1 (by omega))
  have hZ0 : (Z == 0) = false := beq_eq_false_iff_ne.2 (by rw [hZ]; exact hz)
  have HTT := Lib.hid hT
  have W1s : Below w.heap.size w ((w.alloc (.cells #[.int .i64 kp, .string p] 24)).alloc (.cells #[.int .i64 kq, .string q] 24)) := ((Below.refl _ _).alloc (Nat.le_refl _) _).alloc (by simp) _
  have HW1s := Lib.hid W1s
  clear hx hre hL ha hhh hX hT hZ hz hv W1s
  go_enter Tryz.func3, Tryz.ntmps3
  go_wp2_with fail
  refine (short_any 12 600 A m c xs _ HIN.out.len ((HIN.out.lie.below HW1s.out).more HW1s.out.size) HIN.out.short HIN.out.few (by omega) (by omega) (by omega) (by omega)).mono ?_
  rintro e w1 ⟨⟨r, rfl, hr⟩, hb1⟩
  have bp1 : Blk w1 w.heap.size 24 #[.int .i64 kp, .string p] := ((Blk.new w 24 #[.int .i64 kp, .string p]).alloc _).below hb1 (by simp; omega)
  have bq1 : Blk w1 (w.heap.size + 1) 24 #[.int .i64 kq, .string q] := by
    have := Blk.new (w.alloc (.cells #[.int .i64 kp, .string p] 24)) 24 #[.int .i64 kq, .string q]
    exact Blk.below (by simpa using this) hb1 (by simp)
  have k1 : Below w.heap.size w w1 := HW1s.out.trans (hb1.mono HW1s.out.size)
  clear hb1 HW1s
  cases r with
  | false =>
    clear hr
    go_wp2_with fail
    refine (alive6_any _).mono ?_
    rintro e w2 ⟨rfl, hb2⟩
    go_wp2_with fail
    go_ret
    exact ⟨rfl, k1.trans (hb2.mono k1.size)⟩
  | true =>
    have HR := Lib.hid (hr rfl)
    clear hr
    have c1 := bp1.cell 1
    have c3 := bq1.cell 1
    simp at c1 c3
    go_wp2_with fail
    clear c1 c3
    refine (alive6_any _).mono ?_
    rintro e w2 ⟨rfl, hb2⟩
    have bp2 := bp1.below hb2 bp1.lt
    have bq2 := bq1.below hb2 bq1.lt
    have k2 := k1.trans (hb2.mono k1.size)
    have hm12 : m ≤ 12 := by have := HR.out.1; rw [HIN.out.len] at this; omega
    have HSUM : Hid ((cats xs).length ≤ 600) := Lib.hid (by have := HR.out.2; omega)
    clear hb2 bp1 bq1 k1 HR
    have HO : Hid (∀ (w4 : World) (g cap : Nat), m ≤ cap → Txts w4 w4.heap.size (some ⟨g, 0, none⟩) xs → Calls Tryz.prog 7 #[.int .i64 k, .slice (some ⟨g, 0, none⟩) m cap] w4 fun e w' => e = .returned (.tuple #[.agg #[.int .i64 k, .string T], .int .i64 0]) ∧ Below w4.heap.size w4 w') :=
      Lib.hid (fun w4 g cap hcap h => by
        have := mof_any k _ m cap xs w4 HIN.out.len h hcap (by omega) (by have := HSUM.out; omega)
        rw [HOV.out] at this
        exact this)
    go_wp2_with fail
    refine (lent_any A m c xs _ HIN.out.len ((HIN.out.lie.below k2).more k2.size) (by omega) HIN.out.nil_).mono ?_
    rintro e w3 ⟨g, cap, rfl, hL3, hb3⟩
    have hcap : m ≤ cap := by have := hL3.2.2.1; rw [HIN.out.len] at this; omega
    have bp3 := bp2.below hb3 bp2.lt
    have bq3 := bq2.below hb3 bq2.lt
    have k3 := k2.trans (hb3.mono k2.size)
    have HL3 := Lib.hid hL3
    clear hb3 bp2 bq2 k2 hL3
    go_wp2_with fail
    refine (HO.out _ _ _ hcap HL3.out.txts).mono ?_
    rintro e w4 ⟨rfl, hb4⟩
    have bp4 := bp3.below hb4 bp3.lt
    have bq4 := bq3.below hb4 bq3.lt
    have k4 := k3.trans (hb4.mono k3.size)
    have HL4 := Lib.hid (HL3.out.below hb4)
    clear hb4 bp3 bq3 k3
    go_wp2_with fail
    refine (HZ.out _).mono ?_
    rintro e w4x ⟨rfl, rfl⟩
    have bx4 := Blk.new w4 24 #[.int .i64 k, .string T]
    have bp5 := bp4.alloc (.cells #[.int .i64 k, .string T] 24)
    have bq5 := bq4.alloc (.cells #[.int .i64 k, .string T] 24)
    have k5' : Below w.heap.size w (w4.alloc (.cells #[.int .i64 k, .string T] 24)) := k4.alloc k4.size _
    have HL5' := Lib.hid (HL4.out.below ((Below.refl _ _).alloc (Nat.le_refl _) (.cells #[.int .i64 k, .string T] 24)))
    go_upto_region 9 with fail
    obtain ⟨W4, hW4⟩ : ∃ W4, W4 = w4.alloc (.cells #[.int .i64 k, .string T] 24) := ⟨_, rfl⟩
    rw [← hW4] at bx4 bp5 bq5 k5' HL5'
    rw [← hW4]
    clear hW4 bp4 bq4 k4 HL4
    have HBP := Lib.hid bp5
    have HBQ := Lib.hid bq5
    have HK5 := Lib.hid k5'
    have HC4 : Hid (∀ w', Below W4.heap.size W4 w' → w'.cell? ⟨w4.heap.size, 0, none⟩ = some (.int .i64 k) ∧ w'.cell? ⟨w4.heap.size, 1, none⟩ = some (.string T)) := Lib.hid (fun w' hw => ⟨(bx4.below hw bx4.lt).cell 0, (bx4.below hw bx4.lt).cell 1⟩)
    obtain ⟨JJ, hJJ⟩ : ∃ JJ, JJ = joined xs := ⟨_, rfl⟩
    have HJN : Hid (∀ w', Below W4.heap.size W4 w' → Calls Tryz.prog 10 #[.slice A m c] w' fun e w'' => e = .returned (.string JJ) ∧ Below w'.heap.size w' w'') := Lib.hid (fun w' hw => by
      have hbw := HK5.out.trans (hw.mono HK5.out.size)
      rw [hJJ]
      exact (join_any A m c xs w' HIN.out.len ((HIN.out.lie.below hbw).more hbw.size) (by omega) (by have := HSUM.out; omega)).mono fun e w'' h => ⟨h.1, by rw [← h.2]; exact Below.refl _ _⟩)
    have HRP : Hid (∀ w', Calls Tryz.prog 9 #[.int .i64 k, .string JJ] w' fun e w'' => e = .returned (.agg #[.int .i64 k, .string T]) ∧ Below w'.heap.size w' w'') := Lib.hid (fun w' => by
      rw [HTT.out, hJJ]
      exact refprint_any k (joined xs) xs w' (by rw [joined_size]; have := HSUM.out; omega) (joined_list xs))
    have h0J : Below W4.heap.size W4 W4.drew := below_drew (Below.refl _ _)
    clear bx4 bp5 bq5 k5' hJJ
    refine wp_region_grow (Below W4.heap.size W4) (by kernel_rfl) (by kernel_rfl) h0J ?_
    apply grow_step
    · intro w' hw K hK
      go_simp
      exact hK
    · exact ⟨_, rfl, Nat.le_of_ble_eq_true rfl⟩
    · exact ⟨_, h0J⟩
    apply grow_step
    · intro w' hw K hK
      go_simp
      exact hK
    · exact ⟨_, rfl, Nat.le_of_ble_eq_true rfl⟩
    · exact ⟨_, h0J⟩
    apply grow_step
    · intro w' hw K hK
      go_simp
      exact hK
    · exact ⟨_, rfl, Nat.le_of_ble_eq_true rfl⟩
    · exact ⟨_, h0J⟩
    apply grow_step
    · intro w' hw K hK
      obtain ⟨c0, c1⟩ := HC4.out w' hw
      go_simp
      exact hK
    · exact ⟨_, rfl, Nat.le_of_ble_eq_true rfl⟩
    · exact ⟨_, h0J⟩
    apply grow_step
    · intro w' hw K hK
      go_simp
      exact hK
    · exact ⟨_, rfl, Nat.le_of_ble_eq_true rfl⟩
    · exact ⟨_, h0J⟩
    apply grow_step
    · intro w' hw K hK
      go_simp
      exact hK
    · exact ⟨_, rfl, Nat.le_of_ble_eq_true rfl⟩
    · exact ⟨_, h0J⟩
    refine grow_call (fun w' hw => (HJN.out w' hw).mono fun e w'' ⟨he, hb⟩ => ⟨he, hw.trans (hb.mono hw.size)⟩) (by go_simp) (fun w' hw => by go_simp) ?_
    simp only [Act.put, List.setIfInBounds_toArray, List.set_cons_succ, List.set_cons_zero]
    refine grow_call (fun w' hw => (HRP.out w').mono fun e w'' ⟨he, hb⟩ => ⟨he, hw.trans (hb.mono hw.size)⟩) (by go_simp) (fun w' hw => by go_simp) ?_
    simp only [Act.put, List.setIfInBounds_toArray, List.set_cons_succ, List.set_cons_zero]
    apply grow_step
    · intro w' hw K hK
      go_simp
      exact hK
    · exact ⟨_, rfl, Nat.le_of_ble_eq_true rfl⟩
    · exact ⟨_, h0J⟩
    apply grow_step
    · intro w' hw K hK
      go_simp
      exact hK
    · exact ⟨_, rfl, Nat.le_of_ble_eq_true rfl⟩
    · exact ⟨_, h0J⟩
    refine grow_nil ?_
    intro w5 hw5
    have bp5 := HBP.out.below hw5 HBP.out.lt
    have bq5 := HBQ.out.below hw5 HBQ.out.lt
    have k5 := HK5.out.trans (hw5.mono HK5.out.size)
    have HL5 := Lib.hid (HL5'.out.below hw5)
    clear hw5 h0J HJN HRP HC4 HBP HBQ HK5 HL5'
    have c0 := bp5.cell 0
    have c1 := bp5.cell 1
    simp at c0 c1
    go_wp2_with fail
    refine (HL.out _).mono ?_
    rintro e w6 ⟨rfl, hb6⟩
    have bp6 := bp5.below hb6 bp5.lt
    have bq6 := bq5.below hb6 bq5.lt
    have k6 := k5.trans (hb6.mono k5.size)
    have HL6 := Lib.hid (HL5.out.below hb6)
    clear hb6 bp5 bq5 k5 c0 c1 HL5
    have c0 := bp6.cell 0
    have c1 := bp6.cell 1
    simp at c0 c1
    go_wp2_with fail
    refine (HV0.out _).mono ?_
    rintro e w7 ⟨rfl, hb7⟩
    have bp7 := bp6.below hb7 bp6.lt
    have bq7 := bq6.below hb7 bq6.lt
    have k7 := k6.trans (hb7.mono k6.size)
    have HL7 := Lib.hid (HL6.out.below hb7)
    clear hb7 bp6 bq6 k6 c0 c1 HL6
    go_wp2_with fail
    refine (HRd.out _).mono ?_
    rintro e w8 ⟨rfl, hb8⟩
    have bp8 := bp7.below hb8 bp7.lt
    have bq8 := bq7.below hb8 bq7.lt
    have k8 := k7.trans (hb8.mono k7.size)
    have HL8 := Lib.hid (HL7.out.below hb8)
    clear hb8 bp7 bq7 k7 HL7
    go_wp2_with fail
    refine (HRR.out _).mono ?_
    rintro e w9 ⟨rfl, hb9⟩
    have bu9 : Blk w9 w8.heap.size 24 #[.int .i64 rk, .string rs] := (Blk.new w8 _ _).below hb9 (by simp)
    have bp9 := (bp8.alloc (.cells #[.int .i64 rk, .string rs] 24)).below hb9 (by have := bp8.lt; simp; omega)
    have bq9 := (bq8.alloc (.cells #[.int .i64 rk, .string rs] 24)).below hb9 (by have := bq8.lt; simp; omega)
    have k9 : Below w.heap.size w w9 := (k8.alloc k8.size _).trans (hb9.mono (by have := k8.size; simp; omega))
    have HL9 := Lib.hid ((HL8.out.below ((Below.refl _ _).alloc (Nat.le_refl _) (.cells #[.int .i64 rk, .string rs] 24))).below hb9)
    clear hb9 bp8 bq8 k8 HL8
    have bw := Blk.new w9 24 #[.int .i64 rk, .string rs]
    have bu := bu9.alloc (.cells #[.int .i64 rk, .string rs] 24)
    have bp := bp9.alloc (.cells #[.int .i64 rk, .string rs] 24)
    have bq := bq9.alloc (.cells #[.int .i64 rk, .string rs] 24)
    have kk : Below w.heap.size w (w9.alloc (.cells #[.int .i64 rk, .string rs] 24)) := k9.alloc k9.size _
    have HLL := Lib.hid (HL9.out.below ((Below.refl _ _).alloc (Nat.le_refl _) (.cells #[.int .i64 rk, .string rs] 24)))
    clear bu9 bp9 bq9 k9 HL9
    go_upto_region 15 with fail
    obtain ⟨W9, hW9⟩ : ∃ W9, W9 = w9.alloc (.cells #[.int .i64 rk, .string rs] 24) := ⟨_, rfl⟩
    rw [← hW9] at bw bu bp bq kk HLL
    rw [← hW9]
    clear hW9
    obtain ⟨W6, hW6⟩ : ∃ W6, W6 = W9 := ⟨_, rfl⟩
    rw [← hW6] at bw bu bp bq kk HLL
    rw [← hW6]
    clear hW6
    have HBW := Lib.hid kk
    have HC : Hid (∀ w', Below W6.heap.size W6 w' → w'.cell? ⟨w.heap.size, 0, none⟩ = some (.int .i64 kp) ∧ w'.cell? ⟨w.heap.size, 1, none⟩ = some (.string p) ∧ w'.cell? ⟨w.heap.size + 1, 0, none⟩ = some (.int .i64 kq) ∧ w'.cell? ⟨w.heap.size + 1, 1, none⟩ = some (.string q) ∧ w'.cell? ⟨w8.heap.size, 0, none⟩ = some (.int .i64 rk) ∧ w'.cell? ⟨w8.heap.size, 1, none⟩ = some (.string rs) ∧ w'.cell? ⟨w9.heap.size, 0, none⟩ = some (.int .i64 rk) ∧ w'.cell? ⟨w9.heap.size, 1, none⟩ = some (.string rs)) := Lib.hid (fun w' hw =>
      ⟨(bp.below hw bp.lt).cell 0, (bp.below hw bp.lt).cell 1, (bq.below hw bq.lt).cell 0, (bq.below hw bq.lt).cell 1, (bu.below hw bu.lt).cell 0, (bu.below hw bu.lt).cell 1, (bw.below hw bw.lt).cell 0, (bw.below hw bw.lt).cell 1⟩)
    have HST : Hid (∀ w', Below W6.heap.size W6 w' → Calls Tryz.prog 24 #[.slice (some ⟨g, 0, none⟩) m cap, .slice A m c] w' fun e w'' => e = .returned (.bool true) ∧ Below w'.heap.size w' w'') := Lib.hid (fun w' hw => by
      have hbw := HBW.out.trans (hw.mono HBW.out.size)
      exact (stays_any g cap A m c xs _ w' HIN.out.len (HLL.out.below hw) ((HIN.out.lie.below hbw).more hbw.size) (by omega)).mono fun e w'' ⟨he, n, hn⟩ => ⟨he, by rw [hn]; exact below_drewN (Below.refl _ _) _⟩)
    have h0J : Below W6.heap.size W6 W6.drew := below_drew (Below.refl _ _)
    clear bw bu bp bq kk HZ HO HL HRd HRR HV0 
    go_upto_region 17 with fail
    refine wp_region_grow (Below W6.heap.size W6) (by kernel_rfl) (by kernel_rfl) h0J ?_
    apply grow_step
    · intro w' hw K hK
      go_simp
      exact hK
    · exact ⟨_, rfl, Nat.le_of_ble_eq_true rfl⟩
    · exact ⟨_, h0J⟩
    refine grow_call (fun w' hw => (MZ.out w').mono fun e w'' ⟨he, hb⟩ => ⟨he, hw.trans (hb.mono hw.size)⟩) (by simp [Region.wanted]) (fun w' hw => by go_simp) ?_
    simp only [Act.put, List.setIfInBounds_toArray, List.set_cons_succ, List.set_cons_zero]
    apply grow_step
    · intro w' hw K hK
      go_simp
      exact hK
    · exact ⟨_, rfl, Nat.le_of_ble_eq_true rfl⟩
    · exact ⟨_, h0J⟩
    apply grow_step
    · intro w' hw K hK
      go_simp
      exact hK
    · exact ⟨_, rfl, Nat.le_of_ble_eq_true rfl⟩
    · exact ⟨_, h0J⟩
    apply grow_step
    · intro w' hw K hK
      go_simp
      exact hK
    · exact ⟨_, rfl, Nat.le_of_ble_eq_true rfl⟩
    · exact ⟨_, h0J⟩
    apply grow_step
    · intro w' hw K hK
      obtain ⟨c0, c1, c2, c3, c4, c5, c6, c7⟩ := HC.out w' hw
      go_simp
      exact hK
    · exact ⟨_, rfl, Nat.le_of_ble_eq_true rfl⟩
    · exact ⟨_, h0J⟩
    refine grow_call (fun w' hw => (HV.out w').mono fun e w'' ⟨he, hb⟩ => ⟨he, hw.trans (hb.mono hw.size)⟩) (by go_simp) (fun w' hw => by go_simp) ?_
    simp only [Act.put, List.setIfInBounds_toArray, List.set_cons_succ, List.set_cons_zero]
    apply grow_step
    · intro w' hw K hK
      go_simp
      exact hK
    · exact ⟨_, rfl, Nat.le_of_ble_eq_true rfl⟩
    · exact ⟨_, h0J⟩
    apply grow_step
    · intro w' hw K hK
      go_simp
      exact hK
    · exact ⟨_, rfl, Nat.le_of_ble_eq_true rfl⟩
    · exact ⟨_, h0J⟩
    apply grow_step
    · intro w' hw K hK
      go_simp
      exact hK
    · exact ⟨_, rfl, Nat.le_of_ble_eq_true rfl⟩
    · exact ⟨_, h0J⟩
    apply grow_step
    · intro w' hw K hK
      go_simp
      exact hK
    · exact ⟨_, rfl, Nat.le_of_ble_eq_true rfl⟩
    · exact ⟨_, h0J⟩
    apply grow_step
    · intro w' hw K hK
      obtain ⟨c0, c1, c2, c3, c4, c5, c6, c7⟩ := HC.out w' hw
      go_simp
      exact hK
    · exact ⟨_, rfl, Nat.le_of_ble_eq_true rfl⟩
    · exact ⟨_, h0J⟩
    apply grow_step
    · intro w' hw K hK
      obtain ⟨c0, c1, c2, c3, c4, c5, c6, c7⟩ := HC.out w' hw
      go_simp
      exact hK
    · exact ⟨_, rfl, Nat.le_of_ble_eq_true rfl⟩
    · exact ⟨_, h0J⟩
    apply grow_step
    · intro w' hw K hK
      go_simp
      exact hK
    · exact ⟨_, rfl, Nat.le_of_ble_eq_true rfl⟩
    · exact ⟨_, h0J⟩
    apply grow_step
    · intro w' hw K hK
      go_simp
      exact hK
    · exact ⟨_, rfl, Nat.le_of_ble_eq_true rfl⟩
    · exact ⟨_, h0J⟩
    apply grow_step
    · intro w' hw K hK
      go_simp
      exact hK
    · exact ⟨_, rfl, Nat.le_of_ble_eq_true rfl⟩
    · exact ⟨_, h0J⟩
    apply grow_step
    · intro w' hw K hK
      go_simp
      exact hK
    · exact ⟨_, rfl, Nat.le_of_ble_eq_true rfl⟩
    · exact ⟨_, h0J⟩
    apply grow_step
    · intro w' hw K hK
      go_simp
      exact hK
    · exact ⟨_, rfl, Nat.le_of_ble_eq_true rfl⟩
    · exact ⟨_, h0J⟩
    apply grow_step
    · intro w' hw K hK
      go_simp
      exact hK
    · exact ⟨_, rfl, Nat.le_of_ble_eq_true rfl⟩
    · exact ⟨_, h0J⟩
    apply grow_step
    · intro w' hw K hK
      go_simp
      exact hK
    · exact ⟨_, rfl, Nat.le_of_ble_eq_true rfl⟩
    · exact ⟨_, h0J⟩
    apply grow_step
    · intro w' hw K hK
      go_simp
      exact hK
    · exact ⟨_, rfl, Nat.le_of_ble_eq_true rfl⟩
    · exact ⟨_, h0J⟩
    apply grow_step
    · intro w' hw K hK
      obtain ⟨c0, c1, c2, c3, c4, c5, c6, c7⟩ := HC.out w' hw
      go_simp
      exact hK
    · exact ⟨_, rfl, Nat.le_of_ble_eq_true rfl⟩
    · exact ⟨_, h0J⟩
    apply grow_step
    · intro w' hw K hK
      obtain ⟨c0, c1, c2, c3, c4, c5, c6, c7⟩ := HC.out w' hw
      go_simp
      exact hK
    · exact ⟨_, rfl, Nat.le_of_ble_eq_true rfl⟩
    · exact ⟨_, h0J⟩
    refine grow_call (fun w' hw => (HA.out w').mono fun e w'' ⟨he, hb⟩ => ⟨he, hw.trans (hb.mono hw.size)⟩) (by go_simp) (fun w' hw => by go_simp) ?_
    simp only [Act.put, List.setIfInBounds_toArray, List.set_cons_succ, List.set_cons_zero]
    apply grow_step
    · intro w' hw K hK
      obtain ⟨c0, c1, c2, c3, c4, c5, c6, c7⟩ := HC.out w' hw
      go_simp
      exact hK
    · exact ⟨_, rfl, Nat.le_of_ble_eq_true rfl⟩
    · exact ⟨_, h0J⟩
    apply grow_step
    · intro w' hw K hK
      obtain ⟨c0, c1, c2, c3, c4, c5, c6, c7⟩ := HC.out w' hw
      go_simp
      exact hK
    · exact ⟨_, rfl, Nat.le_of_ble_eq_true rfl⟩
    · exact ⟨_, h0J⟩
    refine grow_call (fun w' hw => (HA2.out w').mono fun e w'' ⟨he, hb⟩ => ⟨he, hw.trans (hb.mono hw.size)⟩) (by go_simp) (fun w' hw => by go_simp) ?_
    simp only [Act.put, List.setIfInBounds_toArray, List.set_cons_succ, List.set_cons_zero]
    apply grow_step
    · intro w' hw K hK
      go_simp
      exact hK
    · exact ⟨_, rfl, Nat.le_of_ble_eq_true rfl⟩
    · exact ⟨_, h0J⟩
    apply grow_step
    · intro w' hw K hK
      go_simp
      exact hK
    · exact ⟨_, rfl, Nat.le_of_ble_eq_true rfl⟩
    · exact ⟨_, h0J⟩
    apply grow_step
    · intro w' hw K hK
      go_simp
      exact hK
    · exact ⟨_, rfl, Nat.le_of_ble_eq_true rfl⟩
    · exact ⟨_, h0J⟩
    apply grow_step
    · intro w' hw K hK
      obtain ⟨c0, c1, c2, c3, c4, c5, c6, c7⟩ := HC.out w' hw
      go_simp
      exact hK
    · exact ⟨_, rfl, Nat.le_of_ble_eq_true rfl⟩
    · exact ⟨_, h0J⟩
    apply grow_step
    · intro w' hw K hK
      obtain ⟨c0, c1, c2, c3, c4, c5, c6, c7⟩ := HC.out w' hw
      go_simp
      exact hK
    · exact ⟨_, rfl, Nat.le_of_ble_eq_true rfl⟩
    · exact ⟨_, h0J⟩
    refine grow_call (fun w' hw => (HPP.out w').mono fun e w'' ⟨he, hb⟩ => ⟨he, hw.trans (hb.mono hw.size)⟩) (by go_simp) (fun w' hw => by go_simp) ?_
    simp only [Act.put, List.setIfInBounds_toArray, List.set_cons_succ, List.set_cons_zero]
    apply grow_step
    · intro w' hw K hK
      go_simp
      exact hK
    · exact ⟨_, rfl, Nat.le_of_ble_eq_true rfl⟩
    · exact ⟨_, h0J⟩
    apply grow_step
    · intro w' hw K hK
      go_simp
      exact hK
    · exact ⟨_, rfl, Nat.le_of_ble_eq_true rfl⟩
    · exact ⟨_, h0J⟩
    apply grow_step
    · intro w' hw K hK
      go_simp
      exact hK
    · exact ⟨_, rfl, Nat.le_of_ble_eq_true rfl⟩
    · exact ⟨_, h0J⟩
    apply grow_step
    · intro w' hw K hK
      obtain ⟨c0, c1, c2, c3, c4, c5, c6, c7⟩ := HC.out w' hw
      go_simp
      exact hK
    · exact ⟨_, rfl, Nat.le_of_ble_eq_true rfl⟩
    · exact ⟨_, h0J⟩
    refine grow_call (fun w' hw => (HH.out w').mono fun e w'' ⟨he, hb⟩ => ⟨he, hw.trans (hb.mono hw.size)⟩) (by go_simp) (fun w' hw => by go_simp) ?_
    simp only [Act.put, List.setIfInBounds_toArray, List.set_cons_succ, List.set_cons_zero]
    apply grow_step
    · intro w' hw K hK
      obtain ⟨c0, c1, c2, c3, c4, c5, c6, c7⟩ := HC.out w' hw
      go_simp
      exact hK
    · exact ⟨_, rfl, Nat.le_of_ble_eq_true rfl⟩
    · exact ⟨_, h0J⟩
    refine grow_call (fun w' hw => (HH2.out w').mono fun e w'' ⟨he, hb⟩ => ⟨he, hw.trans (hb.mono hw.size)⟩) (by go_simp) (fun w' hw => by go_simp) ?_
    simp only [Act.put, List.setIfInBounds_toArray, List.set_cons_succ, List.set_cons_zero]
    apply grow_step
    · intro w' hw K hK
      go_simp
      exact hK
    · exact ⟨_, rfl, Nat.le_of_ble_eq_true rfl⟩
    · exact ⟨_, h0J⟩
    apply grow_step
    · intro w' hw K hK
      go_simp
      exact hK
    · exact ⟨_, rfl, Nat.le_of_ble_eq_true rfl⟩
    · exact ⟨_, h0J⟩
    apply grow_step
    · intro w' hw K hK
      go_simp
      exact hK
    · exact ⟨_, rfl, Nat.le_of_ble_eq_true rfl⟩
    · exact ⟨_, h0J⟩
    apply grow_step
    · intro w' hw K hK
      obtain ⟨c0, c1, c2, c3, c4, c5, c6, c7⟩ := HC.out w' hw
      go_simp
      exact hK
    · exact ⟨_, rfl, Nat.le_of_ble_eq_true rfl⟩
    · exact ⟨_, h0J⟩
    refine grow_call (fun w' hw => (HT.out w').mono fun e w'' ⟨he, hb⟩ => ⟨he, hw.trans (hb.mono hw.size)⟩) (by go_simp) (fun w' hw => by go_simp) ?_
    simp only [Act.put, List.setIfInBounds_toArray, List.set_cons_succ, List.set_cons_zero]
    apply grow_step
    · intro w' hw K hK
      go_simp
      exact hK
    · exact ⟨_, rfl, Nat.le_of_ble_eq_true rfl⟩
    · exact ⟨_, h0J⟩
    apply grow_step
    · intro w' hw K hK
      obtain ⟨c0, c1, c2, c3, c4, c5, c6, c7⟩ := HC.out w' hw
      go_simp
      exact hK
    · exact ⟨_, rfl, Nat.le_of_ble_eq_true rfl⟩
    · exact ⟨_, h0J⟩
    refine grow_call (fun w' hw => (HX.out w').mono fun e w'' ⟨he, hb⟩ => ⟨he, hw.trans (hb.mono hw.size)⟩) (by go_simp) (fun w' hw => by go_simp) ?_
    simp only [Act.put, List.setIfInBounds_toArray, List.set_cons_succ, List.set_cons_zero]
    apply grow_step
    · intro w' hw K hK
      go_simp
      exact hK
    · exact ⟨_, rfl, Nat.le_of_ble_eq_true rfl⟩
    · exact ⟨_, h0J⟩
    apply grow_step
    · intro w' hw K hK
      go_simp
      exact hK
    · exact ⟨_, rfl, Nat.le_of_ble_eq_true rfl⟩
    · exact ⟨_, h0J⟩
    apply grow_step
    · intro w' hw K hK
      go_simp
      exact hK
    · exact ⟨_, rfl, Nat.le_of_ble_eq_true rfl⟩
    · exact ⟨_, h0J⟩
    apply grow_step
    · intro w' hw K hK
      go_simp
      exact hK
    · exact ⟨_, rfl, Nat.le_of_ble_eq_true rfl⟩
    · exact ⟨_, h0J⟩
    apply grow_step
    · intro w' hw K hK
      go_simp
      exact hK
    · exact ⟨_, rfl, Nat.le_of_ble_eq_true rfl⟩
    · exact ⟨_, h0J⟩
    refine grow_call (fun w' hw => (HST.out w' hw).mono fun e w'' ⟨he, hb⟩ => ⟨he, hw.trans (hb.mono hw.size)⟩) (by go_simp) (fun w' hw => by go_simp) ?_
    simp only [Act.put, List.setIfInBounds_toArray, List.set_cons_succ, List.set_cons_zero]
    apply grow_step
    · intro w' hw K hK
      go_simp
      exact hK
    · exact ⟨_, rfl, Nat.le_of_ble_eq_true rfl⟩
    · exact ⟨_, h0J⟩
    apply grow_step
    · intro w' hw K hK
      go_simp
      exact hK
    · exact ⟨_, rfl, Nat.le_of_ble_eq_true rfl⟩
    · exact ⟨_, h0J⟩
    refine grow_nil ?_
    intro w7 hw7
    go_wp2_with fail
    go_ret
    exact ⟨rfl, HBW.out.trans (hw7.mono HBW.out.size)⟩
end Go.Proofs.YtpliknofjgbfjaaGreatDoor
