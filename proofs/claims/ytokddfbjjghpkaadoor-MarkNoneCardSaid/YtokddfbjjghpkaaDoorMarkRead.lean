/-
  Package mark's Read.
-/
import Derived.Test.YtokddfbjjghpkaaDoorMarkAlive
import Derived.Test.YtokddfbjjghpkaaDoorMarkLay
namespace Go.Proofs.YtokddfbjjghpkaaDoor
open Go.RowKit

/-- The kind in the first byte, and the bytes of a print of it. -/
def kindB (b : ByteArray) : Int := ((b.data.toList.getD 0 0).toNat : Int)
def readOk (b : ByteArray) : Bool := decide (b.size = 33) && (decide (0 < sizeK (kindB b)) && (b.data.toList.drop (1 + (sizeK (kindB b)).toNat)).all (· == 0))
def readV (b : ByteArray) : Value :=
  if b.size ≠ 33 then .tuple #[.agg #[.int .i64 0, .string .empty], .int .i64 5]
  else if readOk b = true then .tuple #[.agg #[.int .i64 (kindB b), .string (b.extract 1 (1 + (sizeK (kindB b)).toNat))], .int .i64 0]
  else .tuple #[.agg #[.int .i64 0, .string .empty], .int .i64 6]

theorem extract_list (b : ByteArray) (i j : Nat) : (b.extract i j).data.toList = (b.data.toList.drop i).take (j - i) := by simp
/-- The reader behind the first byte. -/
theorem rd_first {b : ByteArray} (h : b.size = 33) : (Rd.num ⟨b, 0⟩ 1) = (kindB b, ⟨b.extract 1 33, 0⟩) := by
  have hk : Rd.take ⟨b, 0⟩ ((1 : Nat) : Int) = (b.extract 0 1, true, ⟨b.extract 1 33, 0⟩) := by
    unfold Rd.take
    rw [if_neg (by simp), if_neg (by omega), if_neg (by show ¬ (b.size : Int) < _; omega)]
    show (b.extract 0 1, true, (⟨b.extract 1 b.size, 0⟩ : Rd)) = _
    rw [h]
  have hl : low (b.extract 0 1).data.toList = (b.data.toList.getD 0 0).toNat := by
    rw [extract_list]
    obtain ⟨⟨l⟩⟩ := b
    have h' : l.length = 33 := h
    match l, h' with
    | x :: r, _ => simp [low]
  have hx := (b.data.toList.getD 0 0).toNat_lt
  unfold Rd.num
  rw [hk]
  simp only [if_true, hl]
  rw [if_neg (by omega)]
  rfl
theorem rd_sum {b : ByteArray} (h : b.size = 33) (z : Nat) (hz : z ≤ 32) : Rd.raw ⟨b.extract 1 33, 0⟩ (z : Int) = (b.extract 1 (1 + z), ⟨b.extract (1 + z) 33, 0⟩) := by
  have hs : (b.extract 1 33).size = 32 := by simp; omega
  unfold Rd.raw Rd.take
  rw [if_neg (by simp), if_neg (by omega), if_neg (by show ¬ ((b.extract 1 33).size : Int) < _; omega)]
  have e1 : (b.extract 1 33).extract 0 z = b.extract 1 (1 + z) := by
    apply ByteArray.ext
    apply Array.toList_inj.1
    rw [extract_list, extract_list, extract_list, List.drop_zero, List.take_take]
    congr 1
    omega
  have e2 : (b.extract 1 33).extract z (b.extract 1 33).size = b.extract (1 + z) 33 := by
    apply ByteArray.ext
    apply Array.toList_inj.1
    rw [extract_list, extract_list, extract_list, hs, List.drop_take, List.drop_drop, List.take_take]
    congr 1
    omega
  show ((b.extract 1 33).extract 0 z, (⟨(b.extract 1 33).extract z (b.extract 1 33).size, 0⟩ : Rd)) = _
  rw [e1, e2]
theorem rd_rest {b : ByteArray} (h : b.size = 33) (z : Nat) : Rd.rest ⟨b.extract (1 + z) 33, 0⟩ = (b.data.toList.drop (1 + z)).all (· == 0) := by
  show ((0 : Int) == 0 && (b.extract (1 + z) 33).data.toList.all (· == 0)) = _
  rw [extract_list, List.take_of_length_le (by rw [List.length_drop, ← Lib.size_eq]; omega)]
  rfl

set_option maxRecDepth 100000 in
set_option maxHeartbeats 2000000 in
theorem read_short (b : ByteArray) (w : World) (h : b.size ≠ 33) :
    Calls Tryd.prog 7 #[.string b] w fun e w' => e = .returned (.tuple #[.agg #[.int .i64 0, .string .empty], .int .i64 5]) ∧ Below w.heap.size w w' := by
  have hi : ((b.size : Int) == 33) = false := beq_eq_false_iff_ne.2 (by omega)
  have hi2 : ((b.size : Int) != 33) = true := by simp [bne, hi]
  clear h
  go_enter Tryd.func7, Tryd.ntmps7
  go_wp2_with fail
  have b1 : Blk (w.alloc (.cells #[.int .i64 0, .string ⟨#[]⟩] 24)) w.heap.size 24 #[.int .i64 0, .string ⟨#[]⟩] := Blk.new w _ _
  have hl : (loadVar 24 ⟨w.heap.size, 0, none⟩).run Tryd.prog (w.alloc (.cells #[.int .i64 0, .string ⟨#[]⟩] 24)) = .ok (.agg #[.int .i64 0, .string ⟨#[]⟩]) _ :=
    run_var_part (off := 0) b1 (fun j v h => by rw [Nat.zero_add]; exact h) (fun w => by kernel_rfl) (fun w => by kernel_rfl)
  refine ret_cell2 rfl rfl hl rfl rfl ?_
  exact ⟨rfl, (Below.refl _ _).alloc (Nat.le_refl _) _⟩

set_option maxRecDepth 100000 in
set_option maxHeartbeats 4000000 in
theorem read_long (b : ByteArray) (w : World) (h : b.size = 33) :
    Calls Tryd.prog 7 #[.string b] w fun e w' => e = .returned (readV b) ∧ Below w.heap.size w w' := by
  obtain ⟨k, hk⟩ : ∃ k, k = kindB b := ⟨_, rfl⟩
  have hkr := (b.data.toList.getD 0 0).toNat_lt
  have hk0 : 0 ≤ k ∧ k < 256 := by rw [hk]; unfold kindB; omega
  obtain ⟨z, hz⟩ : ∃ z : Nat, z = (sizeK k).toNat := ⟨_, rfl⟩
  have hzr := sizeK_range k
  have hzI : sizeK k = (z : Int) := by omega
  have hz32 : z ≤ 32 := by omega
  obtain ⟨S, hS⟩ : ∃ S, S = b.extract 1 (1 + z) := ⟨_, rfl⟩
  have hSs : S.size = z := by rw [hS]; simp; omega
  obtain ⟨R, hR⟩ : ∃ R, R = (b.data.toList.drop (1 + z)).all (· == 0) := ⟨_, rfl⟩
  obtain ⟨s1, hs1⟩ : ∃ s1 : Rd, s1 = ⟨b.extract 1 33, 0⟩ := ⟨_, rfl⟩
  obtain ⟨s2, hs2⟩ : ∃ s2 : Rd, s2 = ⟨b.extract (1 + z) 33, 0⟩ := ⟨_, rfl⟩
  have z1 : s1.b.size ≤ 33 := by rw [hs1]; simp; omega
  have HB : Hid (∀ (g : Nat) (w1 : World), InAt w1 g ⟨b, 0⟩ → Calls Tryd.prog 18 #[.pointer (some ⟨g, 0, none⟩)] w1 fun e w' => e = .returned (.int .i64 k) ∧ InAt w' g s1 ∧ w1.grownBy w' (some g)) := Lib.hid (fun g w1 hi => by
    have := in_byte g ⟨b, 0⟩ w1 hi (by show b.size ≤ _; omega)
    rw [rd_first h, ← hk, ← hs1] at this
    exact this)
  have HZ : Hid (∀ w1, Calls Tryd.prog 10 #[.int .i64 k] w1 fun e w' => e = .returned (.int .i64 (z : Int)) ∧ w1 = w') := Lib.hid (fun w1 => by rw [← hzI]; exact size_any k w1)
  have HR : Hid (∀ (g : Nat) (w1 : World), InAt w1 g s1 → Calls Tryd.prog 19 #[.pointer (some ⟨g, 0, none⟩), .int .i64 (z : Int)] w1 fun e w' => e = .returned (.string S) ∧ InAt w' g s2 ∧ w1.grownBy w' (some g)) := Lib.hid (fun g w1 hi => by
    have := in_raw g s1 (z : Int) w1 hi (by omega)
    rw [hs1, rd_sum h z hz32, ← hS, ← hs2] at this
    exact this)
  have HE : Hid (∀ (g : Nat) (w1 : World), InAt w1 g s2 → Calls Tryd.prog 20 #[.pointer (some ⟨g, 0, none⟩)] w1 fun e w' => e = .returned (.bool R) ∧ w1 = w') := Lib.hid (fun g w1 hi => by
    have := in_rest g s2 w1 hi
    rw [hs2, rd_rest h z, ← hR] at this
    exact this)
  obtain ⟨V, hV⟩ : ∃ V, V = validK k S := ⟨_, rfl⟩
  have hVz : V = decide (0 < z) := by
    rw [hV]; unfold validK
    rw [hzI, hSs]
    simp
  have HV : Hid (∀ w1, Calls Tryd.prog 9 #[.agg #[.int .i64 k, .string S]] w1 fun e w' => e = .returned (.bool V) ∧ Below w1.heap.size w1 w') := Lib.hid (fun w1 => by rw [hV]; exact valid_any k S w1)
  have hok : readOk b = (V && R) := by
    unfold readOk
    rw [← hk, ← hz, ← hR, hVz, decide_eq_true h, hzI]
    simp
  have HVV : Hid (readV b = if (V && R) = true then .tuple #[.agg #[.int .i64 k, .string S], .int .i64 0] else .tuple #[.agg #[.int .i64 0, .string .empty], .int .i64 6]) := Lib.hid (by
    unfold readV
    rw [if_neg (by omega), hok, ← hk, ← hz, ← hS])
  have HO := Lib.hid (fun w1 => on_any b w1 (by omega))
  have hi : ((b.size : Int) == 33) = true := by simp [h]
  have hi2 : ((b.size : Int) != 33) = false := by simp [bne, hi]
  clear hk hz hzI hS hR hs1 hs2 hV hok hVz hkr hk0 hzr hSs
  go_enter Tryd.func7, Tryd.ntmps7
  go_wp2_with fail
  refine (HO.out _).mono ?_
  rintro e w1 ⟨g, rfl, hg, hin, hb1⟩
  have hr1 : Blk w1 w.heap.size 24 #[.int .i64 0, .string ⟨#[]⟩] := (Blk.new w _ _).below hb1 (by simp)
  have hgw : w.heap.size < g := by simp at hg; omega
  have k1 : Below w.heap.size w w1 := ((Below.refl _ _).alloc (Nat.le_refl _) _).trans (hb1.mono (by simp))
  have HIN := Lib.hid hin
  clear hb1 hg hin hi hi2
  go_wp2_with fail
  refine (HB.out g _ HIN.out).mono ?_
  rintro e w2 ⟨rfl, h2, hg2⟩
  have hr2 := hr1.grown hg2 (by simp; omega)
  have k2 : Below w.heap.size w w2 := below_by_new k1 hg2 (by omega)
  have HIN2 := Lib.hid h2
  clear h2 hr1 hg2
  go_wp2_with fail
  refine (HZ.out _).mono ?_
  rintro e w2 ⟨rfl, rfl⟩
  go_wp2_with fail
  refine (HR.out g _ HIN2.out).mono ?_
  rintro e w3 ⟨rfl, h3, hg3⟩
  have hr3 := hr2.grown hg3 (by simp; omega)
  have k3 : Below w.heap.size w w3 := below_by_new k2 hg3 (by omega)
  have HIN3 := Lib.hid h3
  clear h3 hr2 hg3 k1 k2
  go_wp2_with fail
  refine (HV.out _).mono ?_
  rintro e w4 ⟨rfl, hb4⟩
  have hr4 : Blk w4 w.heap.size 24 #[.int .i64 0, .string ⟨#[]⟩] := (hr3.alloc _).below hb4 (by have := hr3.lt; simp; omega)
  have hp4 : Blk w4 w3.heap.size 24 #[.int .i64 k, .string S] := (Blk.new w3 _ _).below hb4 (by simp)
  have hi4 : InAt w4 g s2 := Blk.below (Blk.alloc HIN3.out _) hb4 (by have := Blk.lt HIN3.out; simp; omega)
  have k4 : Below w.heap.size w w4 := (k3.alloc k3.size _).trans (hb4.mono (by have := k3.size; simp; omega))
  have HIN4 := Lib.hid hi4
  have c0 := hr4.cell 0
  have c1 := hr4.cell 1
  have c2 := hp4.cell 0
  have c3 := hp4.cell 1
  have f0 := hr4.frozen 0
  have f1 := hr4.frozen 1
  simp at c0 c1 c2 c3
  clear hb4 hi4 hr3
  cases V with
  | false =>
    go_wp2_with fail
    have b2 := (hr4.put 0 (.int .i64 0)).put 1 (.string ⟨#[]⟩)
    have hl : (loadVar 24 ⟨w.heap.size, 0, none⟩).run Tryd.prog ((w4.setCell ⟨w.heap.size, 0, none⟩ (.int .i64 0)).setCell ⟨w.heap.size, 1, none⟩ (.string ⟨#[]⟩)) = .ok (.agg #[.int .i64 0, .string ⟨#[]⟩]) _ :=
      run_var_part (off := 0) b2 (fun j v h => by rw [Nat.zero_add]; exact h) (fun w => by kernel_rfl) (fun w => by kernel_rfl)
    refine ret_cell2 rfl rfl hl rfl rfl ?_
    exact ⟨by rw [HVV.out]; rfl, (k4.setCell (Nat.le_refl _) _).setCell (Nat.le_refl _) _⟩
  | true =>
    go_wp2_with fail
    refine (HE.out g _ HIN4.out).mono ?_
    rintro e w4 ⟨rfl, rfl⟩
    cases R with
    | false =>
      go_wp2_with fail
      have b2 := (hr4.put 0 (.int .i64 0)).put 1 (.string ⟨#[]⟩)
      have hl : (loadVar 24 ⟨w.heap.size, 0, none⟩).run Tryd.prog ((w4.setCell ⟨w.heap.size, 0, none⟩ (.int .i64 0)).setCell ⟨w.heap.size, 1, none⟩ (.string ⟨#[]⟩)) = .ok (.agg #[.int .i64 0, .string ⟨#[]⟩]) _ :=
        run_var_part (off := 0) b2 (fun j v h => by rw [Nat.zero_add]; exact h) (fun w => by kernel_rfl) (fun w => by kernel_rfl)
      refine ret_cell2 rfl rfl hl rfl rfl ?_
      exact ⟨by rw [HVV.out]; rfl, (k4.setCell (Nat.le_refl _) _).setCell (Nat.le_refl _) _⟩
    | true =>
      go_wp2_with fail
      have b2 := (hr4.put 0 (.int .i64 k)).put 1 (.string S)
      have hl : (loadVar 24 ⟨w.heap.size, 0, none⟩).run Tryd.prog ((w4.setCell ⟨w.heap.size, 0, none⟩ (.int .i64 k)).setCell ⟨w.heap.size, 1, none⟩ (.string S)) = .ok (.agg #[.int .i64 k, .string S]) _ :=
        run_var_part (off := 0) b2 (fun j v h => by rw [Nat.zero_add]; exact h) (fun w => by kernel_rfl) (fun w => by kernel_rfl)
      refine ret_cell2 rfl rfl hl rfl rfl ?_
      exact ⟨by rw [HVV.out]; rfl, (k4.setCell (Nat.le_refl _) _).setCell (Nat.le_refl _) _⟩

theorem read_any6 (b : ByteArray) (w : World) (_hb : b.size ≤ 140737488351232) :
    Calls Tryd.prog 7 #[.string b] w fun e w' => e = .returned (readV b) ∧ Below w.heap.size w w' := by
  by_cases h : b.size = 33
  · exact read_long b w h
  · rw [show readV b = _ from if_pos h]
    exact read_short b w h

theorem layB_size {k : Int} {s : ByteArray} (hs : s.size ≤ 32) : (ByteArray.mk (layB k s).toArray).size = 33 := by
  show (layB k s).toArray.size = 33
  rw [List.size_toArray]
  unfold layB
  rw [List.length_cons, List.length_append, List.length_replicate, ← Lib.size_eq]
  omega
/-- What was laid is read as it was. -/
theorem read_lay {k : Int} {s : ByteArray} (hv : validK k s = true) : readV ⟨(layB k s).toArray⟩ = .tuple #[.agg #[.int .i64 k, .string s], .int .i64 0] := by
  have h := hv
  simp only [validK, Bool.and_eq_true, decide_eq_true_eq] at h
  have hr := sizeK_range k
  have hk : 0 ≤ k ∧ k < 256 := by
    by_cases h1 : k = 1
    · omega
    · by_cases h2 : k = 2
      · omega
      · rw [sizeK_other h1 h2] at h; omega
  have hsz := layB_size (k := k) (s := s) (by omega)
  have hkb : kindB ⟨(layB k s).toArray⟩ = k := by
    show (((layB k s).getD 0 0).toNat : Int) = k
    show ((k.toNat.toUInt8).toNat : Int) = k
    rw [show (k.toNat.toUInt8).toNat = k.toNat % 256 from rfl]
    omega
  have hz : (sizeK k).toNat = s.size := by omega
  have hlist : (ByteArray.mk (layB k s).toArray).data.toList = layB k s := rfl
  have hdrop : (layB k s).drop (1 + s.size) = List.replicate (32 - s.size) 0 := by
    unfold layB
    rw [show 1 + s.size = s.size + 1 by omega, List.drop_succ_cons, Lib.size_eq, List.drop_left]
  have hok : readOk ⟨(layB k s).toArray⟩ = true := by
    unfold readOk
    rw [hkb, hsz, hz, hlist, hdrop]
    simp
    omega
  have hE : (ByteArray.mk (layB k s).toArray).extract 1 (1 + s.size) = s := by
    apply ByteArray.ext
    apply Array.toList_inj.1
    rw [extract_list, hlist]
    unfold layB
    rw [List.drop_succ_cons, List.drop_zero, show 1 + s.size - 1 = s.data.toList.length by rw [← Lib.size_eq]; omega, List.take_left]
  unfold readV
  rw [if_neg (by rw [hsz]; decide), if_pos hok, hkb, hz, hE]
end Go.Proofs.YtokddfbjjghpkaaDoor
