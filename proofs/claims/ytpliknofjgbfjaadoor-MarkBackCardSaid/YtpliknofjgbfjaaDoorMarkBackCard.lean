/-
  MarkBack: for every kind and every two texts the statement's function returns true, and all three read behind the call as before it. Its conditions: the two tables of unicode/utf8 that the row lists read as the program's text lays them (the card ties that); no other.
-/
import Derived.Test.YtpliknofjgbfjaaDoorMarkAlive
import Derived.Test.YtpliknofjgbfjaaDoorMarkLay
import Derived.Test.YtpliknofjgbfjaaDoorMarkCompare
import Derived.Test.YtpliknofjgbfjaaDoorMarkOrdPure
import Derived.Test.YtpliknofjgbfjaaDoorGrow
import Derived.Test.YtpliknofjgbfjaaDoorLaid
import Derived.WalkKit
import Derived.ProofKit
import Derived.OpenShut
import Derived.Deep.DeepHandedRow
import Derived.SizedLaws
import Derived.LaidLaws
namespace Go.Proofs.YtpliknofjgbfjaaDoor
open Go.RowKit

/-- The kind in the first byte, and the bytes of a print of it. -/
def kindB (b : ByteArray) : Int := ((b.data.toList.getD 0 0).toNat : Int)
def readOk (b : ByteArray) : Bool := decide (b.size = 33) && (decide (0 < sizeK (kindB b)) && (b.data.toList.drop (1 + (sizeK (kindB b)).toNat)).all (· == 0))
def readV (b : ByteArray) : Value :=
  if b.size ≠ 33 then .tuple #[.agg #[.int .i64 0, .string .empty], .int .i64 5]
  else if readOk b = true then .tuple #[.agg #[.int .i64 (kindB b), .string (b.extract 1 (1 + (sizeK (kindB b)).toNat))], .int .i64 0]
  else .tuple #[.agg #[.int .i64 0, .string .empty], .int .i64 6]

theorem extract_list (b : ByteArray) (i j : Nat) : (b.extract i j).data.toList = (b.data.toList.drop i).take (j - i) := by simp
/-- The reader behind the first byte. -/
theorem rd_first {b : ByteArray} (h : b.size = 33) : (Rd.num ⟨b, 0⟩ 1) = (kindB b, ⟨b.extract 1 33, 0⟩) := by
  have hk : Rd.take ⟨b, 0⟩ ((1 : Nat) : Int) = (b.extract 0 1, true, ⟨b.extract 1 33, 0⟩) := by
    unfold Rd.take
    rw [if_neg (by simp), if_neg (by omega), if_neg (by show ¬ (b.size : Int) < _; omega)]
    show (b.extract 0 1, true, (⟨b.extract 1 b.size, 0⟩ : Rd)) = _
    rw [h]
  have hl : low (b.extract 0 1).data.toList = (b.data.toList.getD 0 0).toNat := by
    rw [extract_list]
    obtain ⟨⟨l⟩⟩ := b
    have h' : l.length = 33 := h
    match l, h' with
    | x :: r, _ => simp [low]
  have hx := (b.data.toList.getD 0 0).toNat_lt
  unfold Rd.num
  rw [hk]
  simp only [if_true, hl]
  rw [if_neg (by omega)]
  rfl
theorem rd_sum {b : ByteArray} (h : b.size = 33) (z : Nat) (hz : z ≤ 32) : Rd.raw ⟨b.extract 1 33, 0⟩ (z : Int) = (b.extract 1 (1 + z), ⟨b.extract (1 + z) 33, 0⟩) := by
  have hs : (b.extract 1 33).size = 32 := by simp; omega
  unfold Rd.raw Rd.take
  rw [if_neg (by simp), if_neg (by omega), if_neg (by show ¬ ((b.extract 1 33).size : Int) < _; omega)]
  have e1 : (b.extract 1 33).extract 0 z = b.extract 1 (1 + z) := by
    apply ByteArray.ext
    apply Array.toList_inj.1
    rw [extract_list, extract_list, extract_list, List.drop_zero, List.take_take]
    congr 1
    omega
  have e2 : (b.extract 1 33).extract z (b.extract 1 33).size = b.extract (1 + z) 33 := by
    apply ByteArray.ext
    apply Array.toList_inj.1
    rw [extract_list, extract_list, extract_list, hs, List.drop_take, List.drop_drop, List.take_take]
    congr 1
    omega
  show ((b.extract 1 33).extract 0 z, (⟨(b.extract 1 33).extract z (b.extract 1 33).size, 0⟩ : Rd)) = _
  rw [e1, e2]
theorem rd_rest {b : ByteArray} (h : b.size = 33) (z : Nat) : Rd.rest ⟨b.extract (1 + z) 33, 0⟩ = (b.data.toList.drop (1 + z)).all (· == 0) := by
  show ((0 : Int) == 0 && (b.extract (1 + z) 33).data.toList.all (· == 0)) = _
  rw [extract_list, List.take_of_length_le (by rw [List.length_drop, ← Lib.size_eq]; omega)]
  rfl

set_option maxRecDepth 100000 in
set_option maxHeartbeats 2000000 in
theorem read_short (b : ByteArray) (w : World) (h : b.size ≠ 33) :
    Calls Tryd.prog 9 #[.string b] w fun e w' => e = .returned (.tuple #[.agg #[.int .i64 0, .string .empty], .int .i64 5]) ∧ Below w.heap.size w w' := by
  have hi : ((b.size : Int) == 33) = false := beq_eq_false_iff_ne.2 (by omega)
  have hi2 : ((b.size : Int) != 33) = true := by simp [bne, hi]
  clear h
  go_enter Tryd.func9, Tryd.ntmps9
  go_wp2_with fail
  have b1 : Blk (w.alloc (.cells #[.int .i64 0, .string ⟨#[]⟩] 25)) w.heap.size 25 #[.int .i64 0, .string ⟨#[]⟩] := Blk.new w _ _
  have hl : (loadVar 25 ⟨w.heap.size, 0, none⟩).run Tryd.prog (w.alloc (.cells #[.int .i64 0, .string ⟨#[]⟩] 25)) = .ok (.agg #[.int .i64 0, .string ⟨#[]⟩]) _ :=
    run_var_part (off := 0) b1 (fun j v h => by rw [Nat.zero_add]; exact h) (fun w => by kernel_rfl) (fun w => by kernel_rfl)
  refine ret_cell2 rfl rfl hl rfl rfl ?_
  exact ⟨rfl, (Below.refl _ _).alloc (Nat.le_refl _) _⟩

set_option maxRecDepth 100000 in
set_option maxHeartbeats 4000000 in
theorem read_long (b : ByteArray) (w : World) (h : b.size = 33) :
    Calls Tryd.prog 9 #[.string b] w fun e w' => e = .returned (readV b) ∧ Below w.heap.size w w' := by
  obtain ⟨k, hk⟩ : ∃ k, k = kindB b := ⟨_, rfl⟩
  have hkr := (b.data.toList.getD 0 0).toNat_lt
  have hk0 : 0 ≤ k ∧ k < 256 := by rw [hk]; unfold kindB; omega
  obtain ⟨z, hz⟩ : ∃ z : Nat, z = (sizeK k).toNat := ⟨_, rfl⟩
  have hzr := sizeK_range k
  have hzI : sizeK k = (z : Int) := by omega
  have hz32 : z ≤ 32 := by omega
  obtain ⟨S, hS⟩ : ∃ S, S = b.extract 1 (1 + z) := ⟨_, rfl⟩
  have hSs : S.size = z := by rw [hS]; simp; omega
  obtain ⟨R, hR⟩ : ∃ R, R = (b.data.toList.drop (1 + z)).all (· == 0) := ⟨_, rfl⟩
  obtain ⟨s1, hs1⟩ : ∃ s1 : Rd, s1 = ⟨b.extract 1 33, 0⟩ := ⟨_, rfl⟩
  obtain ⟨s2, hs2⟩ : ∃ s2 : Rd, s2 = ⟨b.extract (1 + z) 33, 0⟩ := ⟨_, rfl⟩
  have z1 : s1.b.size ≤ 33 := by rw [hs1]; simp; omega
  have HB : Hid (∀ (g : Nat) (w1 : World), InAt w1 g ⟨b, 0⟩ → Calls Tryd.prog 21 #[.pointer (some ⟨g, 0, none⟩)] w1 fun e w' => e = .returned (.int .i64 k) ∧ InAt w' g s1 ∧ w1.grownBy w' (some g)) := Lib.hid (fun g w1 hi => by
    have := in_byte g ⟨b, 0⟩ w1 hi (by show b.size ≤ _; omega)
    rw [rd_first h, ← hk, ← hs1] at this
    exact this)
  have HZ : Hid (∀ w1, Calls Tryd.prog 13 #[.int .i64 k] w1 fun e w' => e = .returned (.int .i64 (z : Int)) ∧ w1 = w') := Lib.hid (fun w1 => by rw [← hzI]; exact size_any k w1)
  have HR : Hid (∀ (g : Nat) (w1 : World), InAt w1 g s1 → Calls Tryd.prog 22 #[.pointer (some ⟨g, 0, none⟩), .int .i64 (z : Int)] w1 fun e w' => e = .returned (.string S) ∧ InAt w' g s2 ∧ w1.grownBy w' (some g)) := Lib.hid (fun g w1 hi => by
    have := in_raw g s1 (z : Int) w1 hi (by omega)
    rw [hs1, rd_sum h z hz32, ← hS, ← hs2] at this
    exact this)
  have HE : Hid (∀ (g : Nat) (w1 : World), InAt w1 g s2 → Calls Tryd.prog 23 #[.pointer (some ⟨g, 0, none⟩)] w1 fun e w' => e = .returned (.bool R) ∧ w1 = w') := Lib.hid (fun g w1 hi => by
    have := in_rest g s2 w1 hi
    rw [hs2, rd_rest h z, ← hR] at this
    exact this)
  obtain ⟨V, hV⟩ : ∃ V, V = validK k S := ⟨_, rfl⟩
  have hVz : V = decide (0 < z) := by
    rw [hV]; unfold validK
    rw [hzI, hSs]
    simp
  have HV : Hid (∀ w1, Calls Tryd.prog 12 #[.agg #[.int .i64 k, .string S]] w1 fun e w' => e = .returned (.bool V) ∧ Below w1.heap.size w1 w') := Lib.hid (fun w1 => by rw [hV]; exact valid_any k S w1)
  have hok : readOk b = (V && R) := by
    unfold readOk
    rw [← hk, ← hz, ← hR, hVz, decide_eq_true h, hzI]
    simp
  have HVV : Hid (readV b = if (V && R) = true then .tuple #[.agg #[.int .i64 k, .string S], .int .i64 0] else .tuple #[.agg #[.int .i64 0, .string .empty], .int .i64 6]) := Lib.hid (by
    unfold readV
    rw [if_neg (by omega), hok, ← hk, ← hz, ← hS])
  have HO := Lib.hid (fun w1 => on_any b w1 (by omega))
  have hi : ((b.size : Int) == 33) = true := by simp [h]
  have hi2 : ((b.size : Int) != 33) = false := by simp [bne, hi]
  clear hk hz hzI hS hR hs1 hs2 hV hok hVz hkr hk0 hzr hSs
  go_enter Tryd.func9, Tryd.ntmps9
  go_wp2_with fail
  refine (HO.out _).mono ?_
  rintro e w1 ⟨g, rfl, hg, hin, hb1⟩
  have hr1 : Blk w1 w.heap.size 25 #[.int .i64 0, .string ⟨#[]⟩] := (Blk.new w _ _).below hb1 (by simp)
  have hgw : w.heap.size < g := by simp at hg; omega
  have k1 : Below w.heap.size w w1 := ((Below.refl _ _).alloc (Nat.le_refl _) _).trans (hb1.mono (by simp))
  have HIN := Lib.hid hin
  clear hb1 hg hin hi hi2
  go_wp2_with fail
  refine (HB.out g _ HIN.out).mono ?_
  rintro e w2 ⟨rfl, h2, hg2⟩
  have hr2 := hr1.grown hg2 (by simp; omega)
  have k2 : Below w.heap.size w w2 := below_by_new k1 hg2 (by omega)
  have HIN2 := Lib.hid h2
  clear h2 hr1 hg2
  go_wp2_with fail
  refine (HZ.out _).mono ?_
  rintro e w2 ⟨rfl, rfl⟩
  go_wp2_with fail
  refine (HR.out g _ HIN2.out).mono ?_
  rintro e w3 ⟨rfl, h3, hg3⟩
  have hr3 := hr2.grown hg3 (by simp; omega)
  have k3 : Below w.heap.size w w3 := below_by_new k2 hg3 (by omega)
  have HIN3 := Lib.hid h3
  clear h3 hr2 hg3 k1 k2
  go_wp2_with fail
  refine (HV.out _).mono ?_
  rintro e w4 ⟨rfl, hb4⟩
  have hr4 : Blk w4 w.heap.size 25 #[.int .i64 0, .string ⟨#[]⟩] := (hr3.alloc _).below hb4 (by have := hr3.lt; simp; omega)
  have hp4 : Blk w4 w3.heap.size 25 #[.int .i64 k, .string S] := (Blk.new w3 _ _).below hb4 (by simp)
  have hi4 : InAt w4 g s2 := Blk.below (Blk.alloc HIN3.out _) hb4 (by have := Blk.lt HIN3.out; simp; omega)
  have k4 : Below w.heap.size w w4 := (k3.alloc k3.size _).trans (hb4.mono (by have := k3.size; simp; omega))
  have HIN4 := Lib.hid hi4
  have c0 := hr4.cell 0
  have c1 := hr4.cell 1
  have c2 := hp4.cell 0
  have c3 := hp4.cell 1
  have f0 := hr4.frozen 0
  have f1 := hr4.frozen 1
  simp at c0 c1 c2 c3
  clear hb4 hi4 hr3
  cases V with
  | false =>
    go_wp2_with fail
    have b2 := (hr4.put 0 (.int .i64 0)).put 1 (.string ⟨#[]⟩)
    have hl : (loadVar 25 ⟨w.heap.size, 0, none⟩).run Tryd.prog ((w4.setCell ⟨w.heap.size, 0, none⟩ (.int .i64 0)).setCell ⟨w.heap.size, 1, none⟩ (.string ⟨#[]⟩)) = .ok (.agg #[.int .i64 0, .string ⟨#[]⟩]) _ :=
      run_var_part (off := 0) b2 (fun j v h => by rw [Nat.zero_add]; exact h) (fun w => by kernel_rfl) (fun w => by kernel_rfl)
    refine ret_cell2 rfl rfl hl rfl rfl ?_
    exact ⟨by rw [HVV.out]; rfl, (k4.setCell (Nat.le_refl _) _).setCell (Nat.le_refl _) _⟩
  | true =>
    go_wp2_with fail
    refine (HE.out g _ HIN4.out).mono ?_
    rintro e w4 ⟨rfl, rfl⟩
    cases R with
    | false =>
      go_wp2_with fail
      have b2 := (hr4.put 0 (.int .i64 0)).put 1 (.string ⟨#[]⟩)
      have hl : (loadVar 25 ⟨w.heap.size, 0, none⟩).run Tryd.prog ((w4.setCell ⟨w.heap.size, 0, none⟩ (.int .i64 0)).setCell ⟨w.heap.size, 1, none⟩ (.string ⟨#[]⟩)) = .ok (.agg #[.int .i64 0, .string ⟨#[]⟩]) _ :=
        run_var_part (off := 0) b2 (fun j v h => by rw [Nat.zero_add]; exact h) (fun w => by kernel_rfl) (fun w => by kernel_rfl)
      refine ret_cell2 rfl rfl hl rfl rfl ?_
      exact ⟨by rw [HVV.out]; rfl, (k4.setCell (Nat.le_refl _) _).setCell (Nat.le_refl _) _⟩
    | true =>
      go_wp2_with fail
      have b2 := (hr4.put 0 (.int .i64 k)).put 1 (.string S)
      have hl : (loadVar 25 ⟨w.heap.size, 0, none⟩).run Tryd.prog ((w4.setCell ⟨w.heap.size, 0, none⟩ (.int .i64 k)).setCell ⟨w.heap.size, 1, none⟩ (.string S)) = .ok (.agg #[.int .i64 k, .string S]) _ :=
        run_var_part (off := 0) b2 (fun j v h => by rw [Nat.zero_add]; exact h) (fun w => by kernel_rfl) (fun w => by kernel_rfl)
      refine ret_cell2 rfl rfl hl rfl rfl ?_
      exact ⟨by rw [HVV.out]; rfl, (k4.setCell (Nat.le_refl _) _).setCell (Nat.le_refl _) _⟩

theorem read_any6 (b : ByteArray) (w : World) (_hb : b.size ≤ 140737488351232) :
    Calls Tryd.prog 9 #[.string b] w fun e w' => e = .returned (readV b) ∧ Below w.heap.size w w' := by
  by_cases h : b.size = 33
  · exact read_long b w h
  · rw [show readV b = _ from if_pos h]
    exact read_short b w h

theorem layB_size {k : Int} {s : ByteArray} (hs : s.size ≤ 32) : (ByteArray.mk (layB k s).toArray).size = 33 := by
  show (layB k s).toArray.size = 33
  rw [List.size_toArray]
  unfold layB
  rw [List.length_cons, List.length_append, List.length_replicate, ← Lib.size_eq]
  omega
/-- What was laid is read as it was. -/
theorem read_lay {k : Int} {s : ByteArray} (hv : validK k s = true) : readV ⟨(layB k s).toArray⟩ = .tuple #[.agg #[.int .i64 k, .string s], .int .i64 0] := by
  have h := hv
  simp only [validK, Bool.and_eq_true, decide_eq_true_eq] at h
  have hr := sizeK_range k
  have hk : 0 ≤ k ∧ k < 256 := by
    by_cases h1 : k = 1
    · omega
    · by_cases h2 : k = 2
      · omega
      · rw [sizeK_other h1 h2] at h; omega
  have hsz := layB_size (k := k) (s := s) (by omega)
  have hkb : kindB ⟨(layB k s).toArray⟩ = k := by
    show (((layB k s).getD 0 0).toNat : Int) = k
    show ((k.toNat.toUInt8).toNat : Int) = k
    rw [show (k.toNat.toUInt8).toNat = k.toNat % 256 from rfl]
    omega
  have hz : (sizeK k).toNat = s.size := by omega
  have hlist : (ByteArray.mk (layB k s).toArray).data.toList = layB k s := rfl
  have hdrop : (layB k s).drop (1 + s.size) = List.replicate (32 - s.size) 0 := by
    unfold layB
    rw [show 1 + s.size = s.size + 1 by omega, List.drop_succ_cons, Lib.size_eq, List.drop_left]
  have hok : readOk ⟨(layB k s).toArray⟩ = true := by
    unfold readOk
    rw [hkb, hsz, hz, hlist, hdrop]
    simp
    omega
  have hE : (ByteArray.mk (layB k s).toArray).extract 1 (1 + s.size) = s := by
    apply ByteArray.ext
    apply Array.toList_inj.1
    rw [extract_list, hlist]
    unfold layB
    rw [List.drop_succ_cons, List.drop_zero, show 1 + s.size - 1 = s.data.toList.length by rw [← Lib.size_eq]; omega, List.take_left]
  unfold readV
  rw [if_neg (by rw [hsz]; decide), if_pos hok, hkb, hz, hE]
end Go.Proofs.YtpliknofjgbfjaaDoor

namespace Go.Proofs.YtpliknofjgbfjaaDoor
open Go.RowKit

set_option maxHeartbeats 400000 in
theorem refsize_any (k : Int) (w : World) :
    Calls Tryd.prog 5 #[.int .i64 k] w fun e w' => e = .returned (.int .i64 (sizeK k)) ∧ w = w' := by
  by_cases h1 : k = 1
  · subst h1
    go_enter Tryd.func5, Tryd.ntmps5
    go_wp2
    go_ret
    exact ⟨rfl, rfl⟩
  · by_cases h2 : k = 2
    · subst h2
      go_enter Tryd.func5, Tryd.ntmps5
      go_wp2
      go_ret
      exact ⟨rfl, rfl⟩
    · rw [sizeK_other h1 h2]
      have e1 : (k == 1) = false := beq_eq_false_iff_ne.2 h1
      have e2 : (k == 2) = false := beq_eq_false_iff_ne.2 h2
      clear h1 h2
      go_enter Tryd.func5, Tryd.ntmps5
      go_wp2
      go_ret
      exact ⟨rfl, rfl⟩
theorem kind_of {k : Int} (h : sizeK k ≠ 0) : k = 1 ∨ k = 2 := by
  by_cases h1 : k = 1
  · exact .inl h1
  · by_cases h2 : k = 2
    · exact .inr h2
    · exact absurd (sizeK_other h1 h2) h
theorem printOf_size {k : Int} (h : sizeK k ≠ 0) (xs : List ByteArray) : ((printOf k xs).size : Int) = sizeK k := by
  rcases kind_of h with rfl | rfl
  · show (((oneB (cats xs)).toArray.size : Nat) : Int) = 20
    rw [List.size_toArray, oneB_length]
    rfl
  · show (((twoB (cats xs)).toArray.size : Nat) : Int) = 32
    rw [List.size_toArray, twoB_length]
    rfl
theorem printOf_valid {k : Int} (h : sizeK k ≠ 0) (xs : List ByteArray) : validK k (printOf k xs) = true := by
  have h1 := printOf_size h xs
  have h2 := sizeK_range k
  simp only [validK, Bool.and_eq_true, decide_eq_true_eq]
  exact ⟨by omega, h1⟩
theorem ofV_yes {k : Int} (h : sizeK k ≠ 0) (xs : List ByteArray) : ofV k xs = .tuple #[.agg #[.int .i64 k, .string (printOf k xs)], .int .i64 0] := if_neg h
theorem layV_yes {k : Int} {s : ByteArray} (h : validK k s = true) : layV k s = .tuple #[.string ⟨(layB k s).toArray⟩, .int .i64 0] := if_pos h
end Go.Proofs.YtpliknofjgbfjaaDoor

namespace Go.Proofs.YtpliknofjgbfjaaDoor
open Go.RowKit

set_option maxRecDepth 100000 in
set_option maxHeartbeats 4000000 in
theorem mback_in (k : Int) (s t : ByteArray) (w : World) (hs : s.size ≤ 400) (ht : t.size ≤ 400) (hk : sizeK k ≠ 0) (_hkr : -9223372036854775808 ≤ k ∧ k ≤ 9223372036854775807) :
    Calls Tryd.prog 3 #[.int .i64 k, .string s, .string t] w fun e w' => e = .returned (.bool true) ∧ Below w.heap.size w w' := by
  obtain ⟨T, hT⟩ : ∃ T, T = printOf k [s] := ⟨_, rfl⟩
  obtain ⟨U, hU⟩ : ∃ U, U = printOf k [t] := ⟨_, rfl⟩
  obtain ⟨z, hz⟩ : ∃ z, z = sizeK k := ⟨_, rfl⟩
  have hTU : s = t → T = U := fun h => by rw [hT, hU, h]
  have hvT : validK k T = true := by rw [hT]; exact printOf_valid hk _
  have HZ : Hid (∀ w1, Calls Tryd.prog 5 #[.int .i64 k] w1 fun e w' => e = .returned (.int .i64 z) ∧ w1 = w') := Lib.hid (fun w1 => by rw [hz]; exact refsize_any k w1)
  have HO : Hid (∀ (w1 : World) (g : Nat), Txts w1 w1.heap.size (some ⟨g, 0, none⟩) [s] → Calls Tryd.prog 7 #[.int .i64 k, .slice (some ⟨g, 0, none⟩) 1 1] w1 fun e w' => e = .returned (.tuple #[.agg #[.int .i64 k, .string T], .int .i64 0]) ∧ Below w1.heap.size w1 w') := Lib.hid (fun w1 g h => by
    have := mof_any k _ 1 1 [s] w1 rfl h (by omega) (by omega) (by rw [cats_one, ← Lib.size_eq]; omega)
    rw [ofV_yes hk, ← hT] at this
    exact this)
  have HO2 : Hid (∀ (w1 : World) (g : Nat), Txts w1 w1.heap.size (some ⟨g, 0, none⟩) [t] → Calls Tryd.prog 7 #[.int .i64 k, .slice (some ⟨g, 0, none⟩) 1 1] w1 fun e w' => e = .returned (.tuple #[.agg #[.int .i64 k, .string U], .int .i64 0]) ∧ Below w1.heap.size w1 w') := Lib.hid (fun w1 g h => by
    have := mof_any k _ 1 1 [t] w1 rfl h (by omega) (by omega) (by rw [cats_one, ← Lib.size_eq]; omega)
    rw [ofV_yes hk, ← hU] at this
    exact this)
  obtain ⟨B, hB⟩ : ∃ B : ByteArray, B = ⟨(layB k T).toArray⟩ := ⟨_, rfl⟩
  have HL : Hid (∀ w1, Calls Tryd.prog 8 #[.agg #[.int .i64 k, .string T]] w1 fun e w' => e = .returned (.tuple #[.string B, .int .i64 0]) ∧ Below w1.heap.size w1 w') := Lib.hid (fun w1 => by
    have := lay_any6 k T w1
    rw [layV_yes hvT, ← hB] at this
    exact this)
  have hBs : B.size = 33 := by
    rw [hB]
    refine layB_size ?_
    have h1 := hvT
    simp only [validK, Bool.and_eq_true, decide_eq_true_eq] at h1
    have := sizeK_range k
    omega
  have HRd : Hid (∀ w1, Calls Tryd.prog 9 #[.string B] w1 fun e w' => e = .returned (.tuple #[.agg #[.int .i64 k, .string T], .int .i64 0]) ∧ Below w1.heap.size w1 w') := Lib.hid (fun w1 => by
    have := read_any6 B w1 (by omega)
    rw [hB, read_lay hvT, ← hB] at this
    exact this)
  have HA := Lib.hid (fun w => compare_any k T k U w)
  have HS := Lib.hid (fun w => compare_any k U k T w)
  rw [cmpK_swap] at HS
  have ra := cmpK_range k T k U
  have hzr := cmpK_zero k T k U
  generalize cmpK k T k U = a at *
  have RA := Lib.hid ra
  have HZR := Lib.hid hzr
  have HTU := Lib.hid hTU
  have hz0 : (z == 0) = false := beq_eq_false_iff_ne.2 (by rw [hz]; exact hk)
  have hBI : (B.size : Int) = 33 := by omega
  have HBI := Lib.hid hBI
  clear ra hzr hTU hT hU hz hvT hB hBs hk hBI
  go_enter Tryd.func3, Tryd.ntmps3
  go_wp2_with fail
  refine (HZ.out _).mono ?_
  rintro e w1 ⟨rfl, rfl⟩
  go_wp2_with fail
  refine (alive6_any _).mono ?_
  rintro e w1 ⟨rfl, hb1⟩
  go_wp2_with fail
  refine (HO.out _ _ (txts_at _ _ _ _ rfl rfl)).mono ?_
  rintro e w2 ⟨rfl, hb2⟩
  have k2 : Below w.heap.size w w2 := (hb1.alloc hb1.size _).trans (hb2.mono (by have := hb1.size; simp; omega))
  clear hb1 hb2
  go_wp2_with fail
  refine (HO2.out _ _ (txts_at _ _ _ _ (by simp) rfl)).mono ?_
  rintro e w3 ⟨rfl, hb3⟩
  have bp : Blk w3 w2.heap.size 25 #[.int .i64 k, .string T] := ((Blk.new w2 _ _).alloc _).below hb3 (by simp; omega)
  have k3 : Below w.heap.size w w3 := ((k2.alloc k2.size _).alloc (by have := k2.size; simp; omega) _).trans (hb3.mono (by have := k2.size; simp; omega))
  have c0 : (w3.alloc (.cells #[.int .i64 k, .string U] 25)).cell? ⟨w2.heap.size, 0, none⟩ = some (.int .i64 k) := (bp.alloc _).cell 0
  have c1 : (w3.alloc (.cells #[.int .i64 k, .string U] 25)).cell? ⟨w2.heap.size, 1, none⟩ = some (.string T) := (bp.alloc _).cell 1
  clear hb3
  go_wp2_with fail
  refine (HL.out _).mono ?_
  rintro e w4 ⟨rfl, hb4⟩
  have bp4 : Blk w4 w2.heap.size 25 #[.int .i64 k, .string T] := (bp.alloc _).below hb4 (by have := bp.lt; simp; omega)
  have bq4 : Blk w4 w3.heap.size 25 #[.int .i64 k, .string U] := (Blk.new w3 _ _).below hb4 (by simp)
  have k4 : Below w.heap.size w w4 := (k3.alloc k3.size _).trans (hb4.mono (by have := k3.size; simp; omega))
  clear c0 c1 hb4 bp
  go_wp2_with fail
  refine (HRd.out _).mono ?_
  rintro e w5 ⟨rfl, hb5⟩
  have bp5 := (bp4.below hb5 bp4.lt).alloc (.cells #[.int .i64 k, .string T] 25)
  have bq5 := (bq4.below hb5 bq4.lt).alloc (.cells #[.int .i64 k, .string T] 25)
  have br5 := Blk.new w5 25 #[.int .i64 k, .string T]
  have k5 : Below w.heap.size w (w5.alloc (.cells #[.int .i64 k, .string T] 25)) := (k4.trans (hb5.mono k4.size)).alloc (by have := k4.size; have := hb5.size; omega) _
  clear hb5 bp4 bq4 k2 k3 k4
  go_upto_region 7 with fail
  obtain ⟨W6, hW6⟩ : ∃ W6, W6 = w5.alloc (.cells #[.int .i64 k, .string T] 25) := ⟨_, rfl⟩
  rw [← hW6] at bp5 bq5 br5 k5
  rw [← hW6]
  clear hW6
  have HBW := Lib.hid k5
  have HC : Hid (∀ w', Below W6.heap.size W6 w' → w'.cell? ⟨w2.heap.size, 0, none⟩ = some (.int .i64 k) ∧ w'.cell? ⟨w2.heap.size, 1, none⟩ = some (.string T) ∧ w'.cell? ⟨w3.heap.size, 0, none⟩ = some (.int .i64 k) ∧ w'.cell? ⟨w3.heap.size, 1, none⟩ = some (.string U) ∧ w'.cell? ⟨w5.heap.size, 0, none⟩ = some (.int .i64 k) ∧ w'.cell? ⟨w5.heap.size, 1, none⟩ = some (.string T)) := Lib.hid (fun w' hw =>
    ⟨(bp5.below hw bp5.lt).cell 0, (bp5.below hw bp5.lt).cell 1, (bq5.below hw bq5.lt).cell 0, (bq5.below hw bq5.lt).cell 1, (br5.below hw br5.lt).cell 0, (br5.below hw br5.lt).cell 1⟩)
  have h0J : Below W6.heap.size W6 W6.drew := below_drew (Below.refl _ _)
  clear bp5 bq5 br5 k5 HZ HO HO2 HL HRd
  have hBI := HBI.out
  by_cases hst : s = t
  · obtain rfl := HTU.out hst
    obtain rfl : a = 0 := HZR.out.2 (by simp)
    subst hst
    clear HBI HTU HZR RA
    refine wp_region_grow (Below W6.heap.size W6) (by kernel_rfl) (by kernel_rfl) h0J ?_
    apply grow_step
    · intro w' hw K hK
      go_simp
      exact hK
    · exact ⟨_, rfl, Nat.le_of_ble_eq_true rfl⟩
    · exact ⟨_, h0J⟩
    apply grow_step
    · intro w' hw K hK
      go_simp
      exact hK
    · exact ⟨_, rfl, Nat.le_of_ble_eq_true rfl⟩
    · exact ⟨_, h0J⟩
    apply grow_step
    · intro w' hw K hK
      go_simp
      exact hK
    · exact ⟨_, rfl, Nat.le_of_ble_eq_true rfl⟩
    · exact ⟨_, h0J⟩
    apply grow_step
    · intro w' hw K hK
      go_simp
      exact hK
    · exact ⟨_, rfl, Nat.le_of_ble_eq_true rfl⟩
    · exact ⟨_, h0J⟩
    apply grow_step
    · intro w' hw K hK
      go_simp
      exact hK
    · exact ⟨_, rfl, Nat.le_of_ble_eq_true rfl⟩
    · exact ⟨_, h0J⟩
    apply grow_step
    · intro w' hw K hK
      go_simp
      exact hK
    · exact ⟨_, rfl, Nat.le_of_ble_eq_true rfl⟩
    · exact ⟨_, h0J⟩
    apply grow_step
    · intro w' hw K hK
      go_simp
      exact hK
    · exact ⟨_, rfl, Nat.le_of_ble_eq_true rfl⟩
    · exact ⟨_, h0J⟩
    apply grow_step
    · intro w' hw K hK
      go_simp
      exact hK
    · exact ⟨_, rfl, Nat.le_of_ble_eq_true rfl⟩
    · exact ⟨_, h0J⟩
    apply grow_step
    · intro w' hw K hK
      go_simp
      exact hK
    · exact ⟨_, rfl, Nat.le_of_ble_eq_true rfl⟩
    · exact ⟨_, h0J⟩
    apply grow_step
    · intro w' hw K hK
      go_simp
      exact hK
    · exact ⟨_, rfl, Nat.le_of_ble_eq_true rfl⟩
    · exact ⟨_, h0J⟩
    apply grow_step
    · intro w' hw K hK
      go_simp
      exact hK
    · exact ⟨_, rfl, Nat.le_of_ble_eq_true rfl⟩
    · exact ⟨_, h0J⟩
    apply grow_step
    · intro w' hw K hK
      go_simp
      exact hK
    · exact ⟨_, rfl, Nat.le_of_ble_eq_true rfl⟩
    · exact ⟨_, h0J⟩
    apply grow_step
    · intro w' hw K hK
      go_simp
      exact hK
    · exact ⟨_, rfl, Nat.le_of_ble_eq_true rfl⟩
    · exact ⟨_, h0J⟩
    apply grow_step
    · intro w' hw K hK
      go_simp
      exact hK
    · exact ⟨_, rfl, Nat.le_of_ble_eq_true rfl⟩
    · exact ⟨_, h0J⟩
    apply grow_step
    · intro w' hw K hK
      go_simp
      exact hK
    · exact ⟨_, rfl, Nat.le_of_ble_eq_true rfl⟩
    · exact ⟨_, h0J⟩
    apply grow_step
    · intro w' hw K hK
      obtain ⟨c0, c1, c2, c3, c4, c5⟩ := HC.out w' hw
      go_simp
      exact hK
    · exact ⟨_, rfl, Nat.le_of_ble_eq_true rfl⟩
    · exact ⟨_, h0J⟩
    apply grow_step
    · intro w' hw K hK
      obtain ⟨c0, c1, c2, c3, c4, c5⟩ := HC.out w' hw
      go_simp
      exact hK
    · exact ⟨_, rfl, Nat.le_of_ble_eq_true rfl⟩
    · exact ⟨_, h0J⟩
    apply grow_step
    · intro w' hw K hK
      go_simp
      exact hK
    · exact ⟨_, rfl, Nat.le_of_ble_eq_true rfl⟩
    · exact ⟨_, h0J⟩
    apply grow_step
    · intro w' hw K hK
      go_simp
      exact hK
    · exact ⟨_, rfl, Nat.le_of_ble_eq_true rfl⟩
    · exact ⟨_, h0J⟩
    apply grow_step
    · intro w' hw K hK
      go_simp
      exact hK
    · exact ⟨_, rfl, Nat.le_of_ble_eq_true rfl⟩
    · exact ⟨_, h0J⟩
    apply grow_step
    · intro w' hw K hK
      go_simp
      exact hK
    · exact ⟨_, rfl, Nat.le_of_ble_eq_true rfl⟩
    · exact ⟨_, h0J⟩
    apply grow_step
    · intro w' hw K hK
      go_simp
      exact hK
    · exact ⟨_, rfl, Nat.le_of_ble_eq_true rfl⟩
    · exact ⟨_, h0J⟩
    apply grow_step
    · intro w' hw K hK
      go_simp
      exact hK
    · exact ⟨_, rfl, Nat.le_of_ble_eq_true rfl⟩
    · exact ⟨_, h0J⟩
    apply grow_step
    · intro w' hw K hK
      go_simp
      exact hK
    · exact ⟨_, rfl, Nat.le_of_ble_eq_true rfl⟩
    · exact ⟨_, h0J⟩
    apply grow_step
    · intro w' hw K hK
      go_simp
      exact hK
    · exact ⟨_, rfl, Nat.le_of_ble_eq_true rfl⟩
    · exact ⟨_, h0J⟩
    apply grow_step
    · intro w' hw K hK
      go_simp
      exact hK
    · exact ⟨_, rfl, Nat.le_of_ble_eq_true rfl⟩
    · exact ⟨_, h0J⟩
    apply grow_step
    · intro w' hw K hK
      go_simp
      exact hK
    · exact ⟨_, rfl, Nat.le_of_ble_eq_true rfl⟩
    · exact ⟨_, h0J⟩
    apply grow_step
    · intro w' hw K hK
      go_simp
      exact hK
    · exact ⟨_, rfl, Nat.le_of_ble_eq_true rfl⟩
    · exact ⟨_, h0J⟩
    apply grow_step
    · intro w' hw K hK
      go_simp
      exact hK
    · exact ⟨_, rfl, Nat.le_of_ble_eq_true rfl⟩
    · exact ⟨_, h0J⟩
    apply grow_step
    · intro w' hw K hK
      obtain ⟨c0, c1, c2, c3, c4, c5⟩ := HC.out w' hw
      go_simp
      exact hK
    · exact ⟨_, rfl, Nat.le_of_ble_eq_true rfl⟩
    · exact ⟨_, h0J⟩
    apply grow_step
    · intro w' hw K hK
      obtain ⟨c0, c1, c2, c3, c4, c5⟩ := HC.out w' hw
      go_simp
      exact hK
    · exact ⟨_, rfl, Nat.le_of_ble_eq_true rfl⟩
    · exact ⟨_, h0J⟩
    apply grow_step
    · intro w' hw K hK
      go_simp
      exact hK
    · exact ⟨_, rfl, Nat.le_of_ble_eq_true rfl⟩
    · exact ⟨_, h0J⟩
    apply grow_step
    · intro w' hw K hK
      go_simp
      exact hK
    · exact ⟨_, rfl, Nat.le_of_ble_eq_true rfl⟩
    · exact ⟨_, h0J⟩
    apply grow_step
    · intro w' hw K hK
      go_simp
      exact hK
    · exact ⟨_, rfl, Nat.le_of_ble_eq_true rfl⟩
    · exact ⟨_, h0J⟩
    apply grow_step
    · intro w' hw K hK
      go_simp
      exact hK
    · exact ⟨_, rfl, Nat.le_of_ble_eq_true rfl⟩
    · exact ⟨_, h0J⟩
    apply grow_step
    · intro w' hw K hK
      obtain ⟨c0, c1, c2, c3, c4, c5⟩ := HC.out w' hw
      go_simp
      exact hK
    · exact ⟨_, rfl, Nat.le_of_ble_eq_true rfl⟩
    · exact ⟨_, h0J⟩
    apply grow_step
    · intro w' hw K hK
      obtain ⟨c0, c1, c2, c3, c4, c5⟩ := HC.out w' hw
      go_simp
      exact hK
    · exact ⟨_, rfl, Nat.le_of_ble_eq_true rfl⟩
    · exact ⟨_, h0J⟩
    refine grow_call (fun w' hw => (HA.out w').mono fun e w'' ⟨he, hb⟩ => ⟨he, hw.trans (hb.mono hw.size)⟩) (by go_simp) (fun w' hw => by go_simp) ?_
    simp only [Act.put, List.setIfInBounds_toArray, List.set_cons_succ, List.set_cons_zero]
    apply grow_step
    · intro w' hw K hK
      go_simp
      exact hK
    · exact ⟨_, rfl, Nat.le_of_ble_eq_true rfl⟩
    · exact ⟨_, h0J⟩
    apply grow_step
    · intro w' hw K hK
      obtain ⟨c0, c1, c2, c3, c4, c5⟩ := HC.out w' hw
      go_simp
      exact hK
    · exact ⟨_, rfl, Nat.le_of_ble_eq_true rfl⟩
    · exact ⟨_, h0J⟩
    apply grow_step
    · intro w' hw K hK
      obtain ⟨c0, c1, c2, c3, c4, c5⟩ := HC.out w' hw
      go_simp
      exact hK
    · exact ⟨_, rfl, Nat.le_of_ble_eq_true rfl⟩
    · exact ⟨_, h0J⟩
    apply grow_step
    · intro w' hw K hK
      go_simp
      exact hK
    · exact ⟨_, rfl, Nat.le_of_ble_eq_true rfl⟩
    · exact ⟨_, h0J⟩
    apply grow_step
    · intro w' hw K hK
      go_simp
      exact hK
    · exact ⟨_, rfl, Nat.le_of_ble_eq_true rfl⟩
    · exact ⟨_, h0J⟩
    apply grow_step
    · intro w' hw K hK
      go_simp
      exact hK
    · exact ⟨_, rfl, Nat.le_of_ble_eq_true rfl⟩
    · exact ⟨_, h0J⟩
    apply grow_step
    · intro w' hw K hK
      go_simp
      exact hK
    · exact ⟨_, rfl, Nat.le_of_ble_eq_true rfl⟩
    · exact ⟨_, h0J⟩
    apply grow_step
    · intro w' hw K hK
      obtain ⟨c0, c1, c2, c3, c4, c5⟩ := HC.out w' hw
      go_simp
      exact hK
    · exact ⟨_, rfl, Nat.le_of_ble_eq_true rfl⟩
    · exact ⟨_, h0J⟩
    apply grow_step
    · intro w' hw K hK
      obtain ⟨c0, c1, c2, c3, c4, c5⟩ := HC.out w' hw
      go_simp
      exact hK
    · exact ⟨_, rfl, Nat.le_of_ble_eq_true rfl⟩
    · exact ⟨_, h0J⟩
    refine grow_call (fun w' hw => (HA.out w').mono fun e w'' ⟨he, hb⟩ => ⟨he, hw.trans (hb.mono hw.size)⟩) (by go_simp) (fun w' hw => by go_simp) ?_
    simp only [Act.put, List.setIfInBounds_toArray, List.set_cons_succ, List.set_cons_zero]
    apply grow_step
    · intro w' hw K hK
      obtain ⟨c0, c1, c2, c3, c4, c5⟩ := HC.out w' hw
      go_simp
      exact hK
    · exact ⟨_, rfl, Nat.le_of_ble_eq_true rfl⟩
    · exact ⟨_, h0J⟩
    apply grow_step
    · intro w' hw K hK
      obtain ⟨c0, c1, c2, c3, c4, c5⟩ := HC.out w' hw
      go_simp
      exact hK
    · exact ⟨_, rfl, Nat.le_of_ble_eq_true rfl⟩
    · exact ⟨_, h0J⟩
    refine grow_call (fun w' hw => (HS.out w').mono fun e w'' ⟨he, hb⟩ => ⟨he, hw.trans (hb.mono hw.size)⟩) (by go_simp) (fun w' hw => by go_simp) ?_
    simp only [Act.put, List.setIfInBounds_toArray, List.set_cons_succ, List.set_cons_zero]
    apply grow_step
    · intro w' hw K hK
      go_simp
      exact hK
    · exact ⟨_, rfl, Nat.le_of_ble_eq_true rfl⟩
    · exact ⟨_, h0J⟩
    apply grow_step
    · intro w' hw K hK
      go_simp
      exact hK
    · exact ⟨_, rfl, Nat.le_of_ble_eq_true rfl⟩
    · exact ⟨_, h0J⟩
    apply grow_step
    · intro w' hw K hK
      go_simp
      exact hK
    · exact ⟨_, rfl, Nat.le_of_ble_eq_true rfl⟩
    · exact ⟨_, h0J⟩
    apply grow_step
    · intro w' hw K hK
      go_simp
      exact hK
    · exact ⟨_, rfl, Nat.le_of_ble_eq_true rfl⟩
    · exact ⟨_, h0J⟩
    refine grow_nil ?_
    intro w7 hw7
    go_wp2_with fail
    go_ret
    exact ⟨rfl, HBW.out.trans (hw7.mono HBW.out.size)⟩
  · have hst2 : (s.toList == t.toList) = false := by rw [Lib.toList_data, Lib.toList_data]; exact beq_eq_false_iff_ne.2 fun h => hst (bytes_eq.1 h)
    by_cases hTU : T = U
    · subst hTU
      obtain rfl : a = 0 := HZR.out.2 (by simp)
      clear HBI HTU HZR RA hst
      refine wp_region_grow (Below W6.heap.size W6) (by kernel_rfl) (by kernel_rfl) h0J ?_
      apply grow_step
      · intro w' hw K hK
        go_simp
        exact hK
      · exact ⟨_, rfl, Nat.le_of_ble_eq_true rfl⟩
      · exact ⟨_, h0J⟩
      apply grow_step
      · intro w' hw K hK
        go_simp
        exact hK
      · exact ⟨_, rfl, Nat.le_of_ble_eq_true rfl⟩
      · exact ⟨_, h0J⟩
      apply grow_step
      · intro w' hw K hK
        go_simp
        exact hK
      · exact ⟨_, rfl, Nat.le_of_ble_eq_true rfl⟩
      · exact ⟨_, h0J⟩
      apply grow_step
      · intro w' hw K hK
        go_simp
        exact hK
      · exact ⟨_, rfl, Nat.le_of_ble_eq_true rfl⟩
      · exact ⟨_, h0J⟩
      apply grow_step
      · intro w' hw K hK
        go_simp
        exact hK
      · exact ⟨_, rfl, Nat.le_of_ble_eq_true rfl⟩
      · exact ⟨_, h0J⟩
      apply grow_step
      · intro w' hw K hK
        go_simp
        exact hK
      · exact ⟨_, rfl, Nat.le_of_ble_eq_true rfl⟩
      · exact ⟨_, h0J⟩
      apply grow_step
      · intro w' hw K hK
        go_simp
        exact hK
      · exact ⟨_, rfl, Nat.le_of_ble_eq_true rfl⟩
      · exact ⟨_, h0J⟩
      apply grow_step
      · intro w' hw K hK
        go_simp
        exact hK
      · exact ⟨_, rfl, Nat.le_of_ble_eq_true rfl⟩
      · exact ⟨_, h0J⟩
      apply grow_step
      · intro w' hw K hK
        go_simp
        exact hK
      · exact ⟨_, rfl, Nat.le_of_ble_eq_true rfl⟩
      · exact ⟨_, h0J⟩
      apply grow_step
      · intro w' hw K hK
        go_simp
        exact hK
      · exact ⟨_, rfl, Nat.le_of_ble_eq_true rfl⟩
      · exact ⟨_, h0J⟩
      apply grow_step
      · intro w' hw K hK
        go_simp
        exact hK
      · exact ⟨_, rfl, Nat.le_of_ble_eq_true rfl⟩
      · exact ⟨_, h0J⟩
      apply grow_step
      · intro w' hw K hK
        go_simp
        exact hK
      · exact ⟨_, rfl, Nat.le_of_ble_eq_true rfl⟩
      · exact ⟨_, h0J⟩
      apply grow_step
      · intro w' hw K hK
        go_simp
        exact hK
      · exact ⟨_, rfl, Nat.le_of_ble_eq_true rfl⟩
      · exact ⟨_, h0J⟩
      apply grow_step
      · intro w' hw K hK
        go_simp
        exact hK
      · exact ⟨_, rfl, Nat.le_of_ble_eq_true rfl⟩
      · exact ⟨_, h0J⟩
      apply grow_step
      · intro w' hw K hK
        go_simp
        exact hK
      · exact ⟨_, rfl, Nat.le_of_ble_eq_true rfl⟩
      · exact ⟨_, h0J⟩
      apply grow_step
      · intro w' hw K hK
        obtain ⟨c0, c1, c2, c3, c4, c5⟩ := HC.out w' hw
        go_simp
        exact hK
      · exact ⟨_, rfl, Nat.le_of_ble_eq_true rfl⟩
      · exact ⟨_, h0J⟩
      apply grow_step
      · intro w' hw K hK
        obtain ⟨c0, c1, c2, c3, c4, c5⟩ := HC.out w' hw
        go_simp
        exact hK
      · exact ⟨_, rfl, Nat.le_of_ble_eq_true rfl⟩
      · exact ⟨_, h0J⟩
      apply grow_step
      · intro w' hw K hK
        go_simp
        exact hK
      · exact ⟨_, rfl, Nat.le_of_ble_eq_true rfl⟩
      · exact ⟨_, h0J⟩
      apply grow_step
      · intro w' hw K hK
        go_simp
        exact hK
      · exact ⟨_, rfl, Nat.le_of_ble_eq_true rfl⟩
      · exact ⟨_, h0J⟩
      apply grow_step
      · intro w' hw K hK
        go_simp
        exact hK
      · exact ⟨_, rfl, Nat.le_of_ble_eq_true rfl⟩
      · exact ⟨_, h0J⟩
      apply grow_step
      · intro w' hw K hK
        go_simp
        exact hK
      · exact ⟨_, rfl, Nat.le_of_ble_eq_true rfl⟩
      · exact ⟨_, h0J⟩
      apply grow_step
      · intro w' hw K hK
        go_simp
        exact hK
      · exact ⟨_, rfl, Nat.le_of_ble_eq_true rfl⟩
      · exact ⟨_, h0J⟩
      apply grow_step
      · intro w' hw K hK
        go_simp
        exact hK
      · exact ⟨_, rfl, Nat.le_of_ble_eq_true rfl⟩
      · exact ⟨_, h0J⟩
      apply grow_step
      · intro w' hw K hK
        go_simp
        exact hK
      · exact ⟨_, rfl, Nat.le_of_ble_eq_true rfl⟩
      · exact ⟨_, h0J⟩
      apply grow_step
      · intro w' hw K hK
        go_simp
        exact hK
      · exact ⟨_, rfl, Nat.le_of_ble_eq_true rfl⟩
      · exact ⟨_, h0J⟩
      apply grow_step
      · intro w' hw K hK
        go_simp
        exact hK
      · exact ⟨_, rfl, Nat.le_of_ble_eq_true rfl⟩
      · exact ⟨_, h0J⟩
      apply grow_step
      · intro w' hw K hK
        go_simp
        exact hK
      · exact ⟨_, rfl, Nat.le_of_ble_eq_true rfl⟩
      · exact ⟨_, h0J⟩
      apply grow_step
      · intro w' hw K hK
        go_simp
        exact hK
      · exact ⟨_, rfl, Nat.le_of_ble_eq_true rfl⟩
      · exact ⟨_, h0J⟩
      apply grow_step
      · intro w' hw K hK
        go_simp
        exact hK
      · exact ⟨_, rfl, Nat.le_of_ble_eq_true rfl⟩
      · exact ⟨_, h0J⟩
      apply grow_step
      · intro w' hw K hK
        obtain ⟨c0, c1, c2, c3, c4, c5⟩ := HC.out w' hw
        go_simp
        exact hK
      · exact ⟨_, rfl, Nat.le_of_ble_eq_true rfl⟩
      · exact ⟨_, h0J⟩
      apply grow_step
      · intro w' hw K hK
        obtain ⟨c0, c1, c2, c3, c4, c5⟩ := HC.out w' hw
        go_simp
        exact hK
      · exact ⟨_, rfl, Nat.le_of_ble_eq_true rfl⟩
      · exact ⟨_, h0J⟩
      apply grow_step
      · intro w' hw K hK
        go_simp
        exact hK
      · exact ⟨_, rfl, Nat.le_of_ble_eq_true rfl⟩
      · exact ⟨_, h0J⟩
      apply grow_step
      · intro w' hw K hK
        go_simp
        exact hK
      · exact ⟨_, rfl, Nat.le_of_ble_eq_true rfl⟩
      · exact ⟨_, h0J⟩
      apply grow_step
      · intro w' hw K hK
        go_simp
        exact hK
      · exact ⟨_, rfl, Nat.le_of_ble_eq_true rfl⟩
      · exact ⟨_, h0J⟩
      apply grow_step
      · intro w' hw K hK
        go_simp
        exact hK
      · exact ⟨_, rfl, Nat.le_of_ble_eq_true rfl⟩
      · exact ⟨_, h0J⟩
      apply grow_step
      · intro w' hw K hK
        obtain ⟨c0, c1, c2, c3, c4, c5⟩ := HC.out w' hw
        go_simp
        exact hK
      · exact ⟨_, rfl, Nat.le_of_ble_eq_true rfl⟩
      · exact ⟨_, h0J⟩
      apply grow_step
      · intro w' hw K hK
        obtain ⟨c0, c1, c2, c3, c4, c5⟩ := HC.out w' hw
        go_simp
        exact hK
      · exact ⟨_, rfl, Nat.le_of_ble_eq_true rfl⟩
      · exact ⟨_, h0J⟩
      refine grow_call (fun w' hw => (HA.out w').mono fun e w'' ⟨he, hb⟩ => ⟨he, hw.trans (hb.mono hw.size)⟩) (by go_simp) (fun w' hw => by go_simp) ?_
      simp only [Act.put, List.setIfInBounds_toArray, List.set_cons_succ, List.set_cons_zero]
      apply grow_step
      · intro w' hw K hK
        go_simp
        exact hK
      · exact ⟨_, rfl, Nat.le_of_ble_eq_true rfl⟩
      · exact ⟨_, h0J⟩
      apply grow_step
      · intro w' hw K hK
        obtain ⟨c0, c1, c2, c3, c4, c5⟩ := HC.out w' hw
        go_simp
        exact hK
      · exact ⟨_, rfl, Nat.le_of_ble_eq_true rfl⟩
      · exact ⟨_, h0J⟩
      apply grow_step
      · intro w' hw K hK
        obtain ⟨c0, c1, c2, c3, c4, c5⟩ := HC.out w' hw
        go_simp
        exact hK
      · exact ⟨_, rfl, Nat.le_of_ble_eq_true rfl⟩
      · exact ⟨_, h0J⟩
      apply grow_step
      · intro w' hw K hK
        go_simp
        exact hK
      · exact ⟨_, rfl, Nat.le_of_ble_eq_true rfl⟩
      · exact ⟨_, h0J⟩
      apply grow_step
      · intro w' hw K hK
        go_simp
        exact hK
      · exact ⟨_, rfl, Nat.le_of_ble_eq_true rfl⟩
      · exact ⟨_, h0J⟩
      apply grow_step
      · intro w' hw K hK
        go_simp
        exact hK
      · exact ⟨_, rfl, Nat.le_of_ble_eq_true rfl⟩
      · exact ⟨_, h0J⟩
      apply grow_step
      · intro w' hw K hK
        go_simp
        exact hK
      · exact ⟨_, rfl, Nat.le_of_ble_eq_true rfl⟩
      · exact ⟨_, h0J⟩
      apply grow_step
      · intro w' hw K hK
        obtain ⟨c0, c1, c2, c3, c4, c5⟩ := HC.out w' hw
        go_simp
        exact hK
      · exact ⟨_, rfl, Nat.le_of_ble_eq_true rfl⟩
      · exact ⟨_, h0J⟩
      apply grow_step
      · intro w' hw K hK
        obtain ⟨c0, c1, c2, c3, c4, c5⟩ := HC.out w' hw
        go_simp
        exact hK
      · exact ⟨_, rfl, Nat.le_of_ble_eq_true rfl⟩
      · exact ⟨_, h0J⟩
      refine grow_call (fun w' hw => (HA.out w').mono fun e w'' ⟨he, hb⟩ => ⟨he, hw.trans (hb.mono hw.size)⟩) (by go_simp) (fun w' hw => by go_simp) ?_
      simp only [Act.put, List.setIfInBounds_toArray, List.set_cons_succ, List.set_cons_zero]
      apply grow_step
      · intro w' hw K hK
        obtain ⟨c0, c1, c2, c3, c4, c5⟩ := HC.out w' hw
        go_simp
        exact hK
      · exact ⟨_, rfl, Nat.le_of_ble_eq_true rfl⟩
      · exact ⟨_, h0J⟩
      apply grow_step
      · intro w' hw K hK
        obtain ⟨c0, c1, c2, c3, c4, c5⟩ := HC.out w' hw
        go_simp
        exact hK
      · exact ⟨_, rfl, Nat.le_of_ble_eq_true rfl⟩
      · exact ⟨_, h0J⟩
      refine grow_call (fun w' hw => (HS.out w').mono fun e w'' ⟨he, hb⟩ => ⟨he, hw.trans (hb.mono hw.size)⟩) (by go_simp) (fun w' hw => by go_simp) ?_
      simp only [Act.put, List.setIfInBounds_toArray, List.set_cons_succ, List.set_cons_zero]
      apply grow_step
      · intro w' hw K hK
        go_simp
        exact hK
      · exact ⟨_, rfl, Nat.le_of_ble_eq_true rfl⟩
      · exact ⟨_, h0J⟩
      apply grow_step
      · intro w' hw K hK
        go_simp
        exact hK
      · exact ⟨_, rfl, Nat.le_of_ble_eq_true rfl⟩
      · exact ⟨_, h0J⟩
      apply grow_step
      · intro w' hw K hK
        go_simp
        exact hK
      · exact ⟨_, rfl, Nat.le_of_ble_eq_true rfl⟩
      · exact ⟨_, h0J⟩
      apply grow_step
      · intro w' hw K hK
        go_simp
        exact hK
      · exact ⟨_, rfl, Nat.le_of_ble_eq_true rfl⟩
      · exact ⟨_, h0J⟩
      refine grow_nil ?_
      intro w7 hw7
      go_wp2_with fail
      go_ret
      exact ⟨rfl, HBW.out.trans (hw7.mono HBW.out.size)⟩
    · have hTU2 : (T.toList == U.toList) = false := by rw [Lib.toList_data, Lib.toList_data]; exact beq_eq_false_iff_ne.2 fun h => hTU (bytes_eq.1 h)
      have ha : a = -1 ∨ a = 1 := by
        rcases RA.out with h | h | h
        · exact .inl h
        · exact absurd (HZR.out.1 h).2 hTU
        · exact .inr h
      clear HBI HTU HZR RA hst hTU
      rcases ha with rfl | rfl
      · skip
        refine wp_region_grow (Below W6.heap.size W6) (by kernel_rfl) (by kernel_rfl) h0J ?_
        apply grow_step
        · intro w' hw K hK
          go_simp
          exact hK
        · exact ⟨_, rfl, Nat.le_of_ble_eq_true rfl⟩
        · exact ⟨_, h0J⟩
        apply grow_step
        · intro w' hw K hK
          go_simp
          exact hK
        · exact ⟨_, rfl, Nat.le_of_ble_eq_true rfl⟩
        · exact ⟨_, h0J⟩
        apply grow_step
        · intro w' hw K hK
          go_simp
          exact hK
        · exact ⟨_, rfl, Nat.le_of_ble_eq_true rfl⟩
        · exact ⟨_, h0J⟩
        apply grow_step
        · intro w' hw K hK
          go_simp
          exact hK
        · exact ⟨_, rfl, Nat.le_of_ble_eq_true rfl⟩
        · exact ⟨_, h0J⟩
        apply grow_step
        · intro w' hw K hK
          go_simp
          exact hK
        · exact ⟨_, rfl, Nat.le_of_ble_eq_true rfl⟩
        · exact ⟨_, h0J⟩
        apply grow_step
        · intro w' hw K hK
          go_simp
          exact hK
        · exact ⟨_, rfl, Nat.le_of_ble_eq_true rfl⟩
        · exact ⟨_, h0J⟩
        apply grow_step
        · intro w' hw K hK
          go_simp
          exact hK
        · exact ⟨_, rfl, Nat.le_of_ble_eq_true rfl⟩
        · exact ⟨_, h0J⟩
        apply grow_step
        · intro w' hw K hK
          go_simp
          exact hK
        · exact ⟨_, rfl, Nat.le_of_ble_eq_true rfl⟩
        · exact ⟨_, h0J⟩
        apply grow_step
        · intro w' hw K hK
          go_simp
          exact hK
        · exact ⟨_, rfl, Nat.le_of_ble_eq_true rfl⟩
        · exact ⟨_, h0J⟩
        apply grow_step
        · intro w' hw K hK
          go_simp
          exact hK
        · exact ⟨_, rfl, Nat.le_of_ble_eq_true rfl⟩
        · exact ⟨_, h0J⟩
        apply grow_step
        · intro w' hw K hK
          go_simp
          exact hK
        · exact ⟨_, rfl, Nat.le_of_ble_eq_true rfl⟩
        · exact ⟨_, h0J⟩
        apply grow_step
        · intro w' hw K hK
          go_simp
          exact hK
        · exact ⟨_, rfl, Nat.le_of_ble_eq_true rfl⟩
        · exact ⟨_, h0J⟩
        apply grow_step
        · intro w' hw K hK
          go_simp
          exact hK
        · exact ⟨_, rfl, Nat.le_of_ble_eq_true rfl⟩
        · exact ⟨_, h0J⟩
        apply grow_step
        · intro w' hw K hK
          go_simp
          exact hK
        · exact ⟨_, rfl, Nat.le_of_ble_eq_true rfl⟩
        · exact ⟨_, h0J⟩
        apply grow_step
        · intro w' hw K hK
          go_simp
          exact hK
        · exact ⟨_, rfl, Nat.le_of_ble_eq_true rfl⟩
        · exact ⟨_, h0J⟩
        apply grow_step
        · intro w' hw K hK
          obtain ⟨c0, c1, c2, c3, c4, c5⟩ := HC.out w' hw
          go_simp
          exact hK
        · exact ⟨_, rfl, Nat.le_of_ble_eq_true rfl⟩
        · exact ⟨_, h0J⟩
        apply grow_step
        · intro w' hw K hK
          obtain ⟨c0, c1, c2, c3, c4, c5⟩ := HC.out w' hw
          go_simp
          exact hK
        · exact ⟨_, rfl, Nat.le_of_ble_eq_true rfl⟩
        · exact ⟨_, h0J⟩
        apply grow_step
        · intro w' hw K hK
          go_simp
          exact hK
        · exact ⟨_, rfl, Nat.le_of_ble_eq_true rfl⟩
        · exact ⟨_, h0J⟩
        apply grow_step
        · intro w' hw K hK
          go_simp
          exact hK
        · exact ⟨_, rfl, Nat.le_of_ble_eq_true rfl⟩
        · exact ⟨_, h0J⟩
        apply grow_step
        · intro w' hw K hK
          go_simp
          exact hK
        · exact ⟨_, rfl, Nat.le_of_ble_eq_true rfl⟩
        · exact ⟨_, h0J⟩
        apply grow_step
        · intro w' hw K hK
          go_simp
          exact hK
        · exact ⟨_, rfl, Nat.le_of_ble_eq_true rfl⟩
        · exact ⟨_, h0J⟩
        apply grow_step
        · intro w' hw K hK
          go_simp
          exact hK
        · exact ⟨_, rfl, Nat.le_of_ble_eq_true rfl⟩
        · exact ⟨_, h0J⟩
        apply grow_step
        · intro w' hw K hK
          go_simp
          exact hK
        · exact ⟨_, rfl, Nat.le_of_ble_eq_true rfl⟩
        · exact ⟨_, h0J⟩
        apply grow_step
        · intro w' hw K hK
          go_simp
          exact hK
        · exact ⟨_, rfl, Nat.le_of_ble_eq_true rfl⟩
        · exact ⟨_, h0J⟩
        apply grow_step
        · intro w' hw K hK
          go_simp
          exact hK
        · exact ⟨_, rfl, Nat.le_of_ble_eq_true rfl⟩
        · exact ⟨_, h0J⟩
        apply grow_step
        · intro w' hw K hK
          go_simp
          exact hK
        · exact ⟨_, rfl, Nat.le_of_ble_eq_true rfl⟩
        · exact ⟨_, h0J⟩
        apply grow_step
        · intro w' hw K hK
          go_simp
          exact hK
        · exact ⟨_, rfl, Nat.le_of_ble_eq_true rfl⟩
        · exact ⟨_, h0J⟩
        apply grow_step
        · intro w' hw K hK
          go_simp
          exact hK
        · exact ⟨_, rfl, Nat.le_of_ble_eq_true rfl⟩
        · exact ⟨_, h0J⟩
        apply grow_step
        · intro w' hw K hK
          go_simp
          exact hK
        · exact ⟨_, rfl, Nat.le_of_ble_eq_true rfl⟩
        · exact ⟨_, h0J⟩
        apply grow_step
        · intro w' hw K hK
          obtain ⟨c0, c1, c2, c3, c4, c5⟩ := HC.out w' hw
          go_simp
          exact hK
        · exact ⟨_, rfl, Nat.le_of_ble_eq_true rfl⟩
        · exact ⟨_, h0J⟩
        apply grow_step
        · intro w' hw K hK
          obtain ⟨c0, c1, c2, c3, c4, c5⟩ := HC.out w' hw
          go_simp
          exact hK
        · exact ⟨_, rfl, Nat.le_of_ble_eq_true rfl⟩
        · exact ⟨_, h0J⟩
        apply grow_step
        · intro w' hw K hK
          go_simp
          exact hK
        · exact ⟨_, rfl, Nat.le_of_ble_eq_true rfl⟩
        · exact ⟨_, h0J⟩
        apply grow_step
        · intro w' hw K hK
          go_simp
          exact hK
        · exact ⟨_, rfl, Nat.le_of_ble_eq_true rfl⟩
        · exact ⟨_, h0J⟩
        apply grow_step
        · intro w' hw K hK
          go_simp
          exact hK
        · exact ⟨_, rfl, Nat.le_of_ble_eq_true rfl⟩
        · exact ⟨_, h0J⟩
        apply grow_step
        · intro w' hw K hK
          go_simp
          exact hK
        · exact ⟨_, rfl, Nat.le_of_ble_eq_true rfl⟩
        · exact ⟨_, h0J⟩
        apply grow_step
        · intro w' hw K hK
          obtain ⟨c0, c1, c2, c3, c4, c5⟩ := HC.out w' hw
          go_simp
          exact hK
        · exact ⟨_, rfl, Nat.le_of_ble_eq_true rfl⟩
        · exact ⟨_, h0J⟩
        apply grow_step
        · intro w' hw K hK
          obtain ⟨c0, c1, c2, c3, c4, c5⟩ := HC.out w' hw
          go_simp
          exact hK
        · exact ⟨_, rfl, Nat.le_of_ble_eq_true rfl⟩
        · exact ⟨_, h0J⟩
        refine grow_call (fun w' hw => (HA.out w').mono fun e w'' ⟨he, hb⟩ => ⟨he, hw.trans (hb.mono hw.size)⟩) (by go_simp) (fun w' hw => by go_simp) ?_
        simp only [Act.put, List.setIfInBounds_toArray, List.set_cons_succ, List.set_cons_zero]
        apply grow_step
        · intro w' hw K hK
          go_simp
          exact hK
        · exact ⟨_, rfl, Nat.le_of_ble_eq_true rfl⟩
        · exact ⟨_, h0J⟩
        apply grow_step
        · intro w' hw K hK
          obtain ⟨c0, c1, c2, c3, c4, c5⟩ := HC.out w' hw
          go_simp
          exact hK
        · exact ⟨_, rfl, Nat.le_of_ble_eq_true rfl⟩
        · exact ⟨_, h0J⟩
        apply grow_step
        · intro w' hw K hK
          obtain ⟨c0, c1, c2, c3, c4, c5⟩ := HC.out w' hw
          go_simp
          exact hK
        · exact ⟨_, rfl, Nat.le_of_ble_eq_true rfl⟩
        · exact ⟨_, h0J⟩
        apply grow_step
        · intro w' hw K hK
          go_simp
          exact hK
        · exact ⟨_, rfl, Nat.le_of_ble_eq_true rfl⟩
        · exact ⟨_, h0J⟩
        apply grow_step
        · intro w' hw K hK
          go_simp
          exact hK
        · exact ⟨_, rfl, Nat.le_of_ble_eq_true rfl⟩
        · exact ⟨_, h0J⟩
        apply grow_step
        · intro w' hw K hK
          go_simp
          exact hK
        · exact ⟨_, rfl, Nat.le_of_ble_eq_true rfl⟩
        · exact ⟨_, h0J⟩
        apply grow_step
        · intro w' hw K hK
          go_simp
          exact hK
        · exact ⟨_, rfl, Nat.le_of_ble_eq_true rfl⟩
        · exact ⟨_, h0J⟩
        apply grow_step
        · intro w' hw K hK
          obtain ⟨c0, c1, c2, c3, c4, c5⟩ := HC.out w' hw
          go_simp
          exact hK
        · exact ⟨_, rfl, Nat.le_of_ble_eq_true rfl⟩
        · exact ⟨_, h0J⟩
        apply grow_step
        · intro w' hw K hK
          obtain ⟨c0, c1, c2, c3, c4, c5⟩ := HC.out w' hw
          go_simp
          exact hK
        · exact ⟨_, rfl, Nat.le_of_ble_eq_true rfl⟩
        · exact ⟨_, h0J⟩
        refine grow_call (fun w' hw => (HA.out w').mono fun e w'' ⟨he, hb⟩ => ⟨he, hw.trans (hb.mono hw.size)⟩) (by go_simp) (fun w' hw => by go_simp) ?_
        simp only [Act.put, List.setIfInBounds_toArray, List.set_cons_succ, List.set_cons_zero]
        apply grow_step
        · intro w' hw K hK
          obtain ⟨c0, c1, c2, c3, c4, c5⟩ := HC.out w' hw
          go_simp
          exact hK
        · exact ⟨_, rfl, Nat.le_of_ble_eq_true rfl⟩
        · exact ⟨_, h0J⟩
        apply grow_step
        · intro w' hw K hK
          obtain ⟨c0, c1, c2, c3, c4, c5⟩ := HC.out w' hw
          go_simp
          exact hK
        · exact ⟨_, rfl, Nat.le_of_ble_eq_true rfl⟩
        · exact ⟨_, h0J⟩
        refine grow_call (fun w' hw => (HS.out w').mono fun e w'' ⟨he, hb⟩ => ⟨he, hw.trans (hb.mono hw.size)⟩) (by go_simp) (fun w' hw => by go_simp) ?_
        simp only [Act.put, List.setIfInBounds_toArray, List.set_cons_succ, List.set_cons_zero]
        apply grow_step
        · intro w' hw K hK
          go_simp
          exact hK
        · exact ⟨_, rfl, Nat.le_of_ble_eq_true rfl⟩
        · exact ⟨_, h0J⟩
        apply grow_step
        · intro w' hw K hK
          go_simp
          exact hK
        · exact ⟨_, rfl, Nat.le_of_ble_eq_true rfl⟩
        · exact ⟨_, h0J⟩
        apply grow_step
        · intro w' hw K hK
          go_simp
          exact hK
        · exact ⟨_, rfl, Nat.le_of_ble_eq_true rfl⟩
        · exact ⟨_, h0J⟩
        apply grow_step
        · intro w' hw K hK
          go_simp
          exact hK
        · exact ⟨_, rfl, Nat.le_of_ble_eq_true rfl⟩
        · exact ⟨_, h0J⟩
        refine grow_nil ?_
        intro w7 hw7
        go_wp2_with fail
        go_ret
        exact ⟨rfl, HBW.out.trans (hw7.mono HBW.out.size)⟩
      · skip
        refine wp_region_grow (Below W6.heap.size W6) (by kernel_rfl) (by kernel_rfl) h0J ?_
        apply grow_step
        · intro w' hw K hK
          go_simp
          exact hK
        · exact ⟨_, rfl, Nat.le_of_ble_eq_true rfl⟩
        · exact ⟨_, h0J⟩
        apply grow_step
        · intro w' hw K hK
          go_simp
          exact hK
        · exact ⟨_, rfl, Nat.le_of_ble_eq_true rfl⟩
        · exact ⟨_, h0J⟩
        apply grow_step
        · intro w' hw K hK
          go_simp
          exact hK
        · exact ⟨_, rfl, Nat.le_of_ble_eq_true rfl⟩
        · exact ⟨_, h0J⟩
        apply grow_step
        · intro w' hw K hK
          go_simp
          exact hK
        · exact ⟨_, rfl, Nat.le_of_ble_eq_true rfl⟩
        · exact ⟨_, h0J⟩
        apply grow_step
        · intro w' hw K hK
          go_simp
          exact hK
        · exact ⟨_, rfl, Nat.le_of_ble_eq_true rfl⟩
        · exact ⟨_, h0J⟩
        apply grow_step
        · intro w' hw K hK
          go_simp
          exact hK
        · exact ⟨_, rfl, Nat.le_of_ble_eq_true rfl⟩
        · exact ⟨_, h0J⟩
        apply grow_step
        · intro w' hw K hK
          go_simp
          exact hK
        · exact ⟨_, rfl, Nat.le_of_ble_eq_true rfl⟩
        · exact ⟨_, h0J⟩
        apply grow_step
        · intro w' hw K hK
          go_simp
          exact hK
        · exact ⟨_, rfl, Nat.le_of_ble_eq_true rfl⟩
        · exact ⟨_, h0J⟩
        apply grow_step
        · intro w' hw K hK
          go_simp
          exact hK
        · exact ⟨_, rfl, Nat.le_of_ble_eq_true rfl⟩
        · exact ⟨_, h0J⟩
        apply grow_step
        · intro w' hw K hK
          go_simp
          exact hK
        · exact ⟨_, rfl, Nat.le_of_ble_eq_true rfl⟩
        · exact ⟨_, h0J⟩
        apply grow_step
        · intro w' hw K hK
          go_simp
          exact hK
        · exact ⟨_, rfl, Nat.le_of_ble_eq_true rfl⟩
        · exact ⟨_, h0J⟩
        apply grow_step
        · intro w' hw K hK
          go_simp
          exact hK
        · exact ⟨_, rfl, Nat.le_of_ble_eq_true rfl⟩
        · exact ⟨_, h0J⟩
        apply grow_step
        · intro w' hw K hK
          go_simp
          exact hK
        · exact ⟨_, rfl, Nat.le_of_ble_eq_true rfl⟩
        · exact ⟨_, h0J⟩
        apply grow_step
        · intro w' hw K hK
          go_simp
          exact hK
        · exact ⟨_, rfl, Nat.le_of_ble_eq_true rfl⟩
        · exact ⟨_, h0J⟩
        apply grow_step
        · intro w' hw K hK
          go_simp
          exact hK
        · exact ⟨_, rfl, Nat.le_of_ble_eq_true rfl⟩
        · exact ⟨_, h0J⟩
        apply grow_step
        · intro w' hw K hK
          obtain ⟨c0, c1, c2, c3, c4, c5⟩ := HC.out w' hw
          go_simp
          exact hK
        · exact ⟨_, rfl, Nat.le_of_ble_eq_true rfl⟩
        · exact ⟨_, h0J⟩
        apply grow_step
        · intro w' hw K hK
          obtain ⟨c0, c1, c2, c3, c4, c5⟩ := HC.out w' hw
          go_simp
          exact hK
        · exact ⟨_, rfl, Nat.le_of_ble_eq_true rfl⟩
        · exact ⟨_, h0J⟩
        apply grow_step
        · intro w' hw K hK
          go_simp
          exact hK
        · exact ⟨_, rfl, Nat.le_of_ble_eq_true rfl⟩
        · exact ⟨_, h0J⟩
        apply grow_step
        · intro w' hw K hK
          go_simp
          exact hK
        · exact ⟨_, rfl, Nat.le_of_ble_eq_true rfl⟩
        · exact ⟨_, h0J⟩
        apply grow_step
        · intro w' hw K hK
          go_simp
          exact hK
        · exact ⟨_, rfl, Nat.le_of_ble_eq_true rfl⟩
        · exact ⟨_, h0J⟩
        apply grow_step
        · intro w' hw K hK
          go_simp
          exact hK
        · exact ⟨_, rfl, Nat.le_of_ble_eq_true rfl⟩
        · exact ⟨_, h0J⟩
        apply grow_step
        · intro w' hw K hK
          go_simp
          exact hK
        · exact ⟨_, rfl, Nat.le_of_ble_eq_true rfl⟩
        · exact ⟨_, h0J⟩
        apply grow_step
        · intro w' hw K hK
          go_simp
          exact hK
        · exact ⟨_, rfl, Nat.le_of_ble_eq_true rfl⟩
        · exact ⟨_, h0J⟩
        apply grow_step
        · intro w' hw K hK
          go_simp
          exact hK
        · exact ⟨_, rfl, Nat.le_of_ble_eq_true rfl⟩
        · exact ⟨_, h0J⟩
        apply grow_step
        · intro w' hw K hK
          go_simp
          exact hK
        · exact ⟨_, rfl, Nat.le_of_ble_eq_true rfl⟩
        · exact ⟨_, h0J⟩
        apply grow_step
        · intro w' hw K hK
          go_simp
          exact hK
        · exact ⟨_, rfl, Nat.le_of_ble_eq_true rfl⟩
        · exact ⟨_, h0J⟩
        apply grow_step
        · intro w' hw K hK
          go_simp
          exact hK
        · exact ⟨_, rfl, Nat.le_of_ble_eq_true rfl⟩
        · exact ⟨_, h0J⟩
        apply grow_step
        · intro w' hw K hK
          go_simp
          exact hK
        · exact ⟨_, rfl, Nat.le_of_ble_eq_true rfl⟩
        · exact ⟨_, h0J⟩
        apply grow_step
        · intro w' hw K hK
          go_simp
          exact hK
        · exact ⟨_, rfl, Nat.le_of_ble_eq_true rfl⟩
        · exact ⟨_, h0J⟩
        apply grow_step
        · intro w' hw K hK
          obtain ⟨c0, c1, c2, c3, c4, c5⟩ := HC.out w' hw
          go_simp
          exact hK
        · exact ⟨_, rfl, Nat.le_of_ble_eq_true rfl⟩
        · exact ⟨_, h0J⟩
        apply grow_step
        · intro w' hw K hK
          obtain ⟨c0, c1, c2, c3, c4, c5⟩ := HC.out w' hw
          go_simp
          exact hK
        · exact ⟨_, rfl, Nat.le_of_ble_eq_true rfl⟩
        · exact ⟨_, h0J⟩
        apply grow_step
        · intro w' hw K hK
          go_simp
          exact hK
        · exact ⟨_, rfl, Nat.le_of_ble_eq_true rfl⟩
        · exact ⟨_, h0J⟩
        apply grow_step
        · intro w' hw K hK
          go_simp
          exact hK
        · exact ⟨_, rfl, Nat.le_of_ble_eq_true rfl⟩
        · exact ⟨_, h0J⟩
        apply grow_step
        · intro w' hw K hK
          go_simp
          exact hK
        · exact ⟨_, rfl, Nat.le_of_ble_eq_true rfl⟩
        · exact ⟨_, h0J⟩
        apply grow_step
        · intro w' hw K hK
          go_simp
          exact hK
        · exact ⟨_, rfl, Nat.le_of_ble_eq_true rfl⟩
        · exact ⟨_, h0J⟩
        apply grow_step
        · intro w' hw K hK
          obtain ⟨c0, c1, c2, c3, c4, c5⟩ := HC.out w' hw
          go_simp
          exact hK
        · exact ⟨_, rfl, Nat.le_of_ble_eq_true rfl⟩
        · exact ⟨_, h0J⟩
        apply grow_step
        · intro w' hw K hK
          obtain ⟨c0, c1, c2, c3, c4, c5⟩ := HC.out w' hw
          go_simp
          exact hK
        · exact ⟨_, rfl, Nat.le_of_ble_eq_true rfl⟩
        · exact ⟨_, h0J⟩
        refine grow_call (fun w' hw => (HA.out w').mono fun e w'' ⟨he, hb⟩ => ⟨he, hw.trans (hb.mono hw.size)⟩) (by go_simp) (fun w' hw => by go_simp) ?_
        simp only [Act.put, List.setIfInBounds_toArray, List.set_cons_succ, List.set_cons_zero]
        apply grow_step
        · intro w' hw K hK
          go_simp
          exact hK
        · exact ⟨_, rfl, Nat.le_of_ble_eq_true rfl⟩
        · exact ⟨_, h0J⟩
        apply grow_step
        · intro w' hw K hK
          obtain ⟨c0, c1, c2, c3, c4, c5⟩ := HC.out w' hw
          go_simp
          exact hK
        · exact ⟨_, rfl, Nat.le_of_ble_eq_true rfl⟩
        · exact ⟨_, h0J⟩
        apply grow_step
        · intro w' hw K hK
          obtain ⟨c0, c1, c2, c3, c4, c5⟩ := HC.out w' hw
          go_simp
          exact hK
        · exact ⟨_, rfl, Nat.le_of_ble_eq_true rfl⟩
        · exact ⟨_, h0J⟩
        apply grow_step
        · intro w' hw K hK
          go_simp
          exact hK
        · exact ⟨_, rfl, Nat.le_of_ble_eq_true rfl⟩
        · exact ⟨_, h0J⟩
        apply grow_step
        · intro w' hw K hK
          go_simp
          exact hK
        · exact ⟨_, rfl, Nat.le_of_ble_eq_true rfl⟩
        · exact ⟨_, h0J⟩
        apply grow_step
        · intro w' hw K hK
          go_simp
          exact hK
        · exact ⟨_, rfl, Nat.le_of_ble_eq_true rfl⟩
        · exact ⟨_, h0J⟩
        apply grow_step
        · intro w' hw K hK
          go_simp
          exact hK
        · exact ⟨_, rfl, Nat.le_of_ble_eq_true rfl⟩
        · exact ⟨_, h0J⟩
        apply grow_step
        · intro w' hw K hK
          obtain ⟨c0, c1, c2, c3, c4, c5⟩ := HC.out w' hw
          go_simp
          exact hK
        · exact ⟨_, rfl, Nat.le_of_ble_eq_true rfl⟩
        · exact ⟨_, h0J⟩
        apply grow_step
        · intro w' hw K hK
          obtain ⟨c0, c1, c2, c3, c4, c5⟩ := HC.out w' hw
          go_simp
          exact hK
        · exact ⟨_, rfl, Nat.le_of_ble_eq_true rfl⟩
        · exact ⟨_, h0J⟩
        refine grow_call (fun w' hw => (HA.out w').mono fun e w'' ⟨he, hb⟩ => ⟨he, hw.trans (hb.mono hw.size)⟩) (by go_simp) (fun w' hw => by go_simp) ?_
        simp only [Act.put, List.setIfInBounds_toArray, List.set_cons_succ, List.set_cons_zero]
        apply grow_step
        · intro w' hw K hK
          obtain ⟨c0, c1, c2, c3, c4, c5⟩ := HC.out w' hw
          go_simp
          exact hK
        · exact ⟨_, rfl, Nat.le_of_ble_eq_true rfl⟩
        · exact ⟨_, h0J⟩
        apply grow_step
        · intro w' hw K hK
          obtain ⟨c0, c1, c2, c3, c4, c5⟩ := HC.out w' hw
          go_simp
          exact hK
        · exact ⟨_, rfl, Nat.le_of_ble_eq_true rfl⟩
        · exact ⟨_, h0J⟩
        refine grow_call (fun w' hw => (HS.out w').mono fun e w'' ⟨he, hb⟩ => ⟨he, hw.trans (hb.mono hw.size)⟩) (by go_simp) (fun w' hw => by go_simp) ?_
        simp only [Act.put, List.setIfInBounds_toArray, List.set_cons_succ, List.set_cons_zero]
        apply grow_step
        · intro w' hw K hK
          go_simp
          exact hK
        · exact ⟨_, rfl, Nat.le_of_ble_eq_true rfl⟩
        · exact ⟨_, h0J⟩
        apply grow_step
        · intro w' hw K hK
          go_simp
          exact hK
        · exact ⟨_, rfl, Nat.le_of_ble_eq_true rfl⟩
        · exact ⟨_, h0J⟩
        apply grow_step
        · intro w' hw K hK
          go_simp
          exact hK
        · exact ⟨_, rfl, Nat.le_of_ble_eq_true rfl⟩
        · exact ⟨_, h0J⟩
        apply grow_step
        · intro w' hw K hK
          go_simp
          exact hK
        · exact ⟨_, rfl, Nat.le_of_ble_eq_true rfl⟩
        · exact ⟨_, h0J⟩
        refine grow_nil ?_
        intro w7 hw7
        go_wp2_with fail
        go_ret
        exact ⟨rfl, HBW.out.trans (hw7.mono HBW.out.size)⟩

set_option maxRecDepth 100000 in
set_option maxHeartbeats 2000000 in
theorem mback_out (k : Int) (s t : ByteArray) (w : World) (h : 400 < s.size ∨ 400 < t.size ∨ sizeK k = 0) :
    Calls Tryd.prog 3 #[.int .i64 k, .string s, .string t] w fun e w' => e = .returned (.bool true) ∧ Below w.heap.size w w' := by
  by_cases h1 : 400 < s.size
  · go_enter Tryd.func3, Tryd.ntmps3
    go_wp2_with fail
    refine (alive6_any _).mono ?_
    rintro e w1 ⟨rfl, hb1⟩
    go_wp2_with fail
    go_ret
    exact ⟨rfl, hb1⟩
  · by_cases h2 : 400 < t.size
    · go_enter Tryd.func3, Tryd.ntmps3
      go_wp2_with fail
      refine (alive6_any _).mono ?_
      rintro e w1 ⟨rfl, hb1⟩
      go_wp2_with fail
      go_ret
      exact ⟨rfl, hb1⟩
    · have h3 : sizeK k = 0 := by omega
      have HZ := Lib.hid (fun w => refsize_any k w)
      rw [h3] at HZ
      clear h h3
      go_enter Tryd.func3, Tryd.ntmps3
      go_wp2_with fail
      refine (HZ.out _).mono ?_
      rintro e w1 ⟨rfl, rfl⟩
      go_wp2_with fail
      refine (alive6_any _).mono ?_
      rintro e w1 ⟨rfl, hb1⟩
      go_wp2_with fail
      go_ret
      exact ⟨rfl, hb1⟩
theorem mback_any (k : Int) (s t : ByteArray) (w : World) (hk : -9223372036854775808 ≤ k ∧ k ≤ 9223372036854775807) (_hs : s.size ≤ 140737488351232) (_ht : t.size ≤ 140737488351232) :
    Calls Tryd.prog 3 #[.int .i64 k, .string s, .string t] w fun e w' => e = .returned (.bool true) ∧ Below w.heap.size w w' := by
  by_cases h : s.size ≤ 400 ∧ t.size ≤ 400 ∧ sizeK k ≠ 0
  · exact mback_in k s t w h.1 h.2.1 h.2.2 hk
  · exact mback_out k s t w (by omega)
end Go.Proofs.YtpliknofjgbfjaaDoor

namespace Go.Proofs.YtpliknofjgbfjaaDoor.markBack
open Go.ChangeShapes Go.WideShapes Go.ChangeAt Go.RowKit
open Go.WideMaps Go.WideElems
open Go.ChangeMaps (open_string shut_string)


set_option maxRecDepth 100000 in
theorem contract (H : Type) (enc : TypeId × Value → H) (W : World) (base : Nat) (args : Array Value) (ds gs : List (DataW H)) (before : List MemPlace)
    (hval : ∀ (j : Nat) t v, Tryd.f3.params[j]? = some t → args[j]? = some v → Value.okWide Tryd.prog W .any base t v)
    (hW : DataW.Whole enc Tryd.prog Tryd.f3.params.toList Rows.markBackSpec.vars false W args.toList ds gs before)
    (hsz0 : (DataW.weightsEach Tryd.prog (Tryd.f3.params.toList ++ Rows.markBackSpec.plain.varTypes Tryd.prog) (ds ++ gs)).all (· ≤ reachBytes) = true) :
    Calls Tryd.prog 3 args W fun e W' => ∃ v, e = .returned v ∧ Rows.markBackSpec.post enc Tryd.prog Tryd.f3 false true false false W args v W' := by
  have hW' := hW
  obtain ⟨p, q, hA0, hV, rfl, hfz, hnd⟩ := hW
  have hA : DataW.TrodAll enc Tryd.prog W 0 (fun _ => true) true Tryd.f3.params.toList args.toList ds p := hA0
  have hsz := hsz0
  rw [Tryd.params3] at hA hval hsz
  obtain ⟨v0, vs0, d0, ds0, p0, q0, hargs, rfl, rfl, h0, r0⟩ := trodAll_cons hA
  obtain ⟨v1, vs1, d1, ds1, p1, q1, rfl, rfl, rfl, h1, r1⟩ := trodAll_cons r0
  obtain ⟨v2, vs2, d2, ds2, p2, q2, rfl, rfl, rfl, h2, r2⟩ := trodAll_cons r1
  obtain ⟨rfl, rfl, rfl⟩ := trodAll_nil r2
  obtain rfl : args = #[v0, v1, v2] := by cases args; simp_all
  obtain ⟨rfl, rfl⟩ := trodVars_none hV
  obtain ⟨x0, rfl, rfl, rfl, w0⟩ := open_int Tryd.underlying3 (hval 0 3 v0 rfl rfl) h0
  obtain ⟨x1, rfl, rfl, rfl, w1⟩ := open_string Tryd.underlying9 (hval 1 9 v1 rfl rfl) h1
  obtain ⟨x2, rfl, rfl, rfl, w2⟩ := open_string Tryd.underlying9 (hval 2 9 v2 rfl rfl) h2
  clear hA0
  simp only [List.append_nil] at hW'
  have b0 := bounds_i64 w0
  have b1 : x1.size ≤ 140737488351232 := by rw [Lib.size_eq]; exact (sized_string hsz (j := 1) (t := 9) rfl rfl : x1.data.toList.length ≤ reachBytes)
  have b2 : x2.size ≤ 140737488351232 := by rw [Lib.size_eq]; exact (sized_string hsz (j := 2) (t := 9) rfl rfl : x2.data.toList.length ≤ reachBytes)
  refine (mback_any x0 x1 x2 W b0 b1 b2).mono fun e W' ⟨he, hb⟩ => ?_
  subst he
  exact ⟨_, rfl, _, _, _, [], [], [], hW', trodAll_mk1 (shut_bool Tryd.underlying4 _), (trodAll_cons_mk (shut_int Tryd.underlying3 w0) (trodAll_cons_mk (shut_string Tryd.underlying9 w1) (trodAll_cons_mk (shut_string Tryd.underlying9 w2) trodAll_mk0))), rfl, hb.frame _, fun h => by cases h⟩

theorem laid_met (os : Os) : laidMet Tryd.prog Rows.markBackRow.laid ((laidWorld os).forCall (fun _ _ => 0) ⟨#[], #[.int .i64 0, .string .empty, .string .empty], []⟩).memory :=
  laidMet_of_run' 8 (by kernel_rfl) (by kernel_rfl)
theorem reads (os : Os) {H : Type} (enc : TypeId × Value → H) : ∃ places, DataW.whole enc Tryd.prog ((laidWorld os).forCall (fun _ _ => 0) ⟨#[], #[.int .i64 0, .string .empty, .string .empty], []⟩).memory Tryd.f3.params.toList Rows.markBackSpec.vars false #[Value.int .i64 0, Value.string .empty, Value.string .empty].toList 8 = some ([.lit (.int .i64 0), .lit (.string []), .lit (.string [])], [], places) :=
  ⟨[], by kernel_rfl⟩

set_option maxRecDepth 100000 in
theorem lifted (os : Os) (started : os.Started) (H : Type) (enc : TypeId × Value → H) (F : Stop.Interp) :
    ReturnsInHanded {} Tryd.checked os 3 .any ((OpenSpec.ofChange Rows.markBackSpec).preRow enc Tryd.prog Tryd.f3 Rows.markBackRow.domain false Rows.markBackRow.laid) (((OpenSpec.ofChange Rows.markBackSpec).at F).post enc Tryd.prog Tryd.f3 false true false false) := by
  obtain ⟨places, hx⟩ := reads os enc
  refine returnsInHanded_of_row (C := Tryd.checked) (s := OpenSpec.ofChange Rows.markBackSpec) own started (by kernel_rfl) Tryd.func3
    (witness_row_at (enc := enc) (C := Tryd.checked) false (laidWorld os) #[.int .i64 0, .string .empty, .string .empty] rfl (by kernel_rfl) (by kernel_rfl) (by kernel_rfl)
      (OpenSpec.preRow_of_cond 8 hx (by kernel_rfl) (fun k hk => by cases hk) (by kernel_rfl) (laid_met os))) ?_
  intro W base args ds gs before hval hW _ _ hsz _ _ _
  exact contract H enc W base args ds gs before hval hW hsz

/-- The statement. -/
theorem said : Rows.MarkBackSaid :=
  OpenClaim.holds_of_cond 3 Tryd.f3 rfl rfl rfl rfl rfl rfl rfl ⟨rfl, rfl, rfl, rfl, rfl⟩ rfl rfl rfl rfl rfl (by kernel_rfl) Tryd.func3 (by kernel_rfl)
    (of_decide_eq_true (by kernel_rfl)) (by unfold Func.isWrapper; first | (rw [if_pos (by decide +kernel)]; kernel_rfl) | (rw [if_neg (by decide +kernel)]; exact ⟨rfl, rfl⟩))
    (fun os started H enc _ F => by rw [OpenClaim.pre_eq_preRow]; exact lifted os started H enc F)

theorem plain (f : FuncId) (fn : Func) (hf : Tryd.pinned.checked.prog.funcNamed "masonry/masonrylaw6.MarkBack" = some f) (hfn : Tryd.pinned.checked.prog.funcs[f]? = some fn) :
    false = Tryd.pinned.checked.prog.looks [] ∧ ∀ (j : Nat) t, fn.params[j]? = some t → Tryd.pinned.checked.prog.wantsStandIn t = false := by
  obtain rfl : f = 3 := Option.some.inj ((show Tryd.prog.funcNamed "masonry/masonrylaw6.MarkBack" = some 3 by kernel_rfl).symm.trans hf) |>.symm
  obtain rfl : fn = Tryd.f3 := (Option.some.inj (Tryd.func3.symm.trans hfn)).symm
  refine ⟨by kernel_rfl, fun j t ht => ?_⟩
  rw [Tryd.params3] at ht
  match j, ht with
  | 0, ht => obtain rfl := Option.some.inj (show some 3 = some t from ht); exact (show Tryd.prog.wantsStandIn 3 = false by kernel_rfl)
  | 1, ht => obtain rfl := Option.some.inj (show some 9 = some t from ht); exact (show Tryd.prog.wantsStandIn 9 = false by kernel_rfl)
  | 2, ht => obtain rfl := Option.some.inj (show some 9 = some t from ht); exact (show Tryd.prog.wantsStandIn 9 = false by kernel_rfl)
  | j + 3, ht => simp at ht

/-- The card. -/
theorem card : Rows.MarkBackCardSaid :=
  Claim7.holds_tied_plain_at .later [] _ _ _ _ said (fun _ h => by cases h) (by kernel_rfl) (fun _ h => by cases h) markBack_row_tie rfl ⟨rfl, rfl⟩ (by kernel_rfl) rfl plain (by kernel_rfl)
end Go.Proofs.YtpliknofjgbfjaaDoor.markBack
