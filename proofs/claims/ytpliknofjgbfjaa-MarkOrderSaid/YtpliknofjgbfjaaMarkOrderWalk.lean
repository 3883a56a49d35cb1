/-
  MarkOrder, walked.
-/
import Derived.Test.YtpliknofjgbfjaaMarkAlive
import Derived.Test.YtpliknofjgbfjaaMarkHash
import Derived.Test.YtpliknofjgbfjaaMarkCompare
import Derived.Test.YtpliknofjgbfjaaMarkOrdPure
import Derived.Test.YtpliknofjgbfjaaGrow
import Derived.Deep.DeepCutAuto
namespace Go.Proofs.Ytpliknofjgbfjaa
open Go.RowKit

set_option maxRecDepth 100000 in
set_option maxHeartbeats 2000000 in
theorem order_out (k l m : Int) (s t u : ByteArray) (w : World) (h : 60 < s.size ∨ 60 < t.size ∨ 60 < u.size) :
    Calls Try.prog 3 #[.agg #[.int .i64 k, .string s], .agg #[.int .i64 l, .string t], .agg #[.int .i64 m, .string u]] w fun e w' => e = .returned (.bool true) ∧ Below w.heap.size w w' := by
  by_cases h1 : 60 < s.size
  · go_enter Try.func3, Try.ntmps3
    go_wp2_with fail
    refine (alive6_any _).mono ?_
    rintro e w1 ⟨rfl, hb1⟩
    go_wp2_with fail
    go_ret
    exact ⟨rfl, (((((Below.refl _ _).alloc (Nat.le_refl _) _).alloc (by simp) _).alloc (by simp; omega) _)).trans (hb1.mono (by simp; omega))⟩
  · by_cases h2 : 60 < t.size
    · go_enter Try.func3, Try.ntmps3
      go_wp2_with fail
      refine (alive6_any _).mono ?_
      rintro e w1 ⟨rfl, hb1⟩
      go_wp2_with fail
      go_ret
      exact ⟨rfl, (((((Below.refl _ _).alloc (Nat.le_refl _) _).alloc (by simp) _).alloc (by simp; omega) _)).trans (hb1.mono (by simp; omega))⟩
    · have h3 : 60 < u.size := by omega
      go_enter Try.func3, Try.ntmps3
      go_wp2_with fail
      refine (alive6_any _).mono ?_
      rintro e w1 ⟨rfl, hb1⟩
      go_wp2_with fail
      go_ret
      exact ⟨rfl, (((((Below.refl _ _).alloc (Nat.le_refl _) _).alloc (by simp) _).alloc (by simp; omega) _)).trans (hb1.mono (by simp; omega))⟩

set_option maxRecDepth 100000 in
set_option maxHeartbeats 4000000 in
theorem order_in (k l m : Int) (s t u : ByteArray) (w : World) (h1 : s.size ≤ 60) (h2 : t.size ≤ 60) (h3 : u.size ≤ 60) :
    Calls Try.prog 3 #[.agg #[.int .i64 k, .string s], .agg #[.int .i64 l, .string t], .agg #[.int .i64 m, .string u]] w fun e w' => e = .returned (.bool true) ∧ Below w.heap.size w w' := by
  have HA := Lib.hid (fun w => compare_any k s l t w)
  have HB := Lib.hid (fun w => compare_any l t m u w)
  have HE := Lib.hid (fun w => compare_any k s m u w)
  have HS := Lib.hid (fun w => compare_any l t k s w)
  rw [cmpK_swap] at HS
  have ra := cmpK_range k s l t
  have rb := cmpK_range l t m u
  have rc := cmpK_range k s m u
  have T1 := @cmpK_trans k s l t m u
  have T2 := @cmpK_trans' k s l t m u
  have hz := cmpK_zero k s l t
  have HH := Lib.hid (fun w => hash_any k s w (by omega))
  have HR := Lib.hid (fun w => refhash_any k s w (by omega))
  have hhr := hashK_range s
  obtain ⟨X, hX⟩ : ∃ X : ByteArray, X = ⟨(hexB s.data.toList).toArray⟩ := ⟨_, rfl⟩
  have HT : Hid (∀ w1, Calls Try.prog 8 #[.agg #[.int .i64 k, .string s]] w1 fun e w' => e = .returned (.string X) ∧ Below w1.heap.size w1 w') := Lib.hid (fun w1 => by rw [hX]; exact mtext_any k s w1 (by omega))
  have hxs : X.size = 2 * s.size := by rw [hX]; show (hexB s.data.toList).toArray.size = _; rw [List.size_toArray, hexB_length, ← Lib.size_eq]
  clear hX
  generalize cmpK k s l t = a at *
  generalize cmpK l t m u = b at *
  generalize cmpK k s m u = c at *
  generalize hashK s = hh at *
  have RA := Lib.hid ra
  have RB := Lib.hid rb
  have RC := Lib.hid rc
  have HT1 := Lib.hid T1
  have HT2 := Lib.hid T2
  have HZ := Lib.hid hz
  have HHR := Lib.hid hhr
  have HXS := Lib.hid hxs
  clear ra rb rc hz hhr hxs T1 T2
  go_enter Try.func3, Try.ntmps3
  go_wp2_with fail
  refine (alive6_any _).mono ?_
  rintro e w1 ⟨rfl, hb1⟩
  have b0 : Blk w1 w.heap.size 23 #[.int .i64 k, .string s] := (((Blk.new w 23 #[.int .i64 k, .string s]).alloc _).alloc _).below hb1 (by simp; omega)
  have b1 : Blk w1 (w.heap.size + 1) 23 #[.int .i64 l, .string t] := by
    have := (Blk.new (w.alloc (.cells #[.int .i64 k, .string s] 23)) 23 #[.int .i64 l, .string t]).alloc (.cells #[.int .i64 m, .string u] 23)
    exact Blk.below (by simpa using this) hb1 (by simp)
  have b2 : Blk w1 (w.heap.size + 2) 23 #[.int .i64 m, .string u] := by
    have := Blk.new ((w.alloc (.cells #[.int .i64 k, .string s] 23)).alloc (.cells #[.int .i64 l, .string t] 23)) 23 #[.int .i64 m, .string u]
    exact Blk.below (by simpa using this) hb1 (by simp)
  have hb : Below w.heap.size w w1 := (((((Below.refl _ _).alloc (Nat.le_refl _) _).alloc (by simp) _).alloc (by simp; omega) _)).trans (hb1.mono (by simp; omega))
  have HBW := Lib.hid hb
  have HC : Hid (∀ w', Below w1.heap.size w1 w' → w'.cell? ⟨w.heap.size, 0, none⟩ = some (.int .i64 k) ∧ w'.cell? ⟨w.heap.size, 1, none⟩ = some (.string s) ∧ w'.cell? ⟨w.heap.size + 1, 0, none⟩ = some (.int .i64 l) ∧ w'.cell? ⟨w.heap.size + 1, 1, none⟩ = some (.string t) ∧ w'.cell? ⟨w.heap.size + 2, 0, none⟩ = some (.int .i64 m) ∧ w'.cell? ⟨w.heap.size + 2, 1, none⟩ = some (.string u)) := Lib.hid (fun w' hw =>
    ⟨(b0.below hw b0.lt).cell 0, (b0.below hw b0.lt).cell 1, (b1.below hw b1.lt).cell 0, (b1.below hw b1.lt).cell 1, (b2.below hw b2.lt).cell 0, (b2.below hw b2.lt).cell 1⟩)
  have h0J : Below w1.heap.size w1 w1.drew := below_drew (Below.refl _ _)
  clear hb1 b0 b1 b2 hb
  go_wp2_with fail
  refine wp_region_grow (Below w1.heap.size w1) (by kernel_rfl) (by kernel_rfl) h0J ?_
  apply grow_step
  · intro w' hw K hK
    obtain ⟨c0, c1, c2, c3, c4, c5⟩ := HC.out w' hw
    go_simp
    exact hK
  · exact ⟨_, rfl, Nat.le_of_ble_eq_true rfl⟩
  · exact ⟨_, h0J⟩
  apply grow_step
  · intro w' hw K hK
    obtain ⟨c0, c1, c2, c3, c4, c5⟩ := HC.out w' hw
    go_simp
    exact hK
  · exact ⟨_, rfl, Nat.le_of_ble_eq_true rfl⟩
  · exact ⟨_, h0J⟩
  refine grow_call (fun w' hw => (HA.out w').mono fun e w'' ⟨he, hb⟩ => ⟨he, hw.trans (hb.mono hw.size)⟩) (by simp [Region.wanted]) (fun w' hw => by go_simp) ?_
  simp only [Act.put, List.setIfInBounds_toArray, List.set_cons_succ, List.set_cons_zero]
  apply grow_step
  · intro w' hw K hK
    obtain ⟨c0, c1, c2, c3, c4, c5⟩ := HC.out w' hw
    go_simp
    exact hK
  · exact ⟨_, rfl, Nat.le_of_ble_eq_true rfl⟩
  · exact ⟨_, h0J⟩
  apply grow_step
  · intro w' hw K hK
    obtain ⟨c0, c1, c2, c3, c4, c5⟩ := HC.out w' hw
    go_simp
    exact hK
  · exact ⟨_, rfl, Nat.le_of_ble_eq_true rfl⟩
  · exact ⟨_, h0J⟩
  refine grow_call (fun w' hw => (HB.out w').mono fun e w'' ⟨he, hb⟩ => ⟨he, hw.trans (hb.mono hw.size)⟩) (by simp [Region.wanted]) (fun w' hw => by go_simp) ?_
  simp only [Act.put, List.setIfInBounds_toArray, List.set_cons_succ, List.set_cons_zero]
  apply grow_step
  · intro w' hw K hK
    obtain ⟨c0, c1, c2, c3, c4, c5⟩ := HC.out w' hw
    go_simp
    exact hK
  · exact ⟨_, rfl, Nat.le_of_ble_eq_true rfl⟩
  · exact ⟨_, h0J⟩
  apply grow_step
  · intro w' hw K hK
    obtain ⟨c0, c1, c2, c3, c4, c5⟩ := HC.out w' hw
    go_simp
    exact hK
  · exact ⟨_, rfl, Nat.le_of_ble_eq_true rfl⟩
  · exact ⟨_, h0J⟩
  refine grow_call (fun w' hw => (HE.out w').mono fun e w'' ⟨he, hb⟩ => ⟨he, hw.trans (hb.mono hw.size)⟩) (by simp [Region.wanted]) (fun w' hw => by go_simp) ?_
  simp only [Act.put, List.setIfInBounds_toArray, List.set_cons_succ, List.set_cons_zero]
  apply grow_step
  · intro w' hw K hK
    go_simp
    exact hK
  · exact ⟨_, rfl, Nat.le_of_ble_eq_true rfl⟩
  · exact ⟨_, h0J⟩
  apply grow_step
  · intro w' hw K hK
    go_simp
    exact hK
  · exact ⟨_, rfl, Nat.le_of_ble_eq_true rfl⟩
  · exact ⟨_, h0J⟩
  apply grow_step
  · intro w' hw K hK
    go_simp
    exact hK
  · exact ⟨_, rfl, Nat.le_of_ble_eq_true rfl⟩
  · exact ⟨_, h0J⟩
  refine grow_nil ?_
  intro w2 hw2
  clear h0J
  go_upto_region 4 with fail
  go_cut [62] (fun r wx => r = .bool false ∧ Below w1.heap.size w1 wx)
  case first =>
    obtain ⟨c0, c1, c2, c3, c4, c5⟩ := HC.out w2 hw2
    go_wp2_with fail
    refine (HS.out _).mono ?_
    rintro e w3 ⟨rfl, hb3⟩
    have hw3 := hw2.trans (hb3.mono hw2.size)
    clear c0 c1 c2 c3 c4 c5
    obtain ⟨c0, c1, c2, c3, c4, c5⟩ := HC.out w3 hw3
    by_cases hk : k = l
    · subst hk
      by_cases hs : s = t
      · subst hs
        obtain rfl : a = 0 := HZ.out.2 ⟨rfl, rfl⟩
        go_wp2_with fail
        go_meet
        exact ⟨rfl, hw3⟩
      · have hst : (s.data.toList == t.data.toList) = false := beq_eq_false_iff_ne.2 fun h => hs (bytes_eq.1 h)
        have hst2 : (s.toList == t.toList) = false := by rw [Lib.toList_data, Lib.toList_data]; exact hst
        rcases RA.out with rfl | rfl | rfl
        · go_wp2_with fail
          go_meet
          exact ⟨rfl, hw3⟩
        · exact absurd (HZ.out.1 rfl).2 hs
        · go_wp2_with fail
          go_meet
          exact ⟨rfl, hw3⟩
    · have hkl : (k == l) = false := beq_eq_false_iff_ne.2 hk
      rcases RA.out with rfl | rfl | rfl
      · go_wp2_with fail
        go_meet
        exact ⟨rfl, hw3⟩
      · exact absurd (HZ.out.1 rfl).1 hk
      · go_wp2_with fail
        go_meet
        exact ⟨rfl, hw3⟩
  case rest =>
    obtain ⟨rfl, hw3⟩ := hcut
    go_upto_region 6 with fail
    go_cut [84] (fun r wx => r = .bool false ∧ Below w1.heap.size w1 wx)
    case first =>
      have t1 := HT1.out
      have t2 := HT2.out
      rcases RA.out with rfl | rfl | rfl <;> rcases RB.out with rfl | rfl | rfl <;> rcases RC.out with rfl | rfl | rfl <;> first
        | (exfalso; omega)
        | (clear t1 t2; go_wp2_with fail; go_meet; exact ⟨rfl, hw3⟩)
    case rest =>
    obtain ⟨rfl, hw3⟩ := hcut
    clear RA RB RC HT1 HT2 HZ HA HB HE HS
    obtain ⟨c0, c1, c2, c3, c4, c5⟩ := HC.out _ hw3
    go_wp2_with fail
    refine (HH.out _).mono ?_
    rintro e w4 ⟨rfl, hb4⟩
    have hw4 := hw3.trans (hb4.mono hw3.size)
    clear c0 c1 c2 c3 c4 c5 hb4
    have p0 := HHR.out.1
    have p1 := HHR.out.2
    have h0J : Below w1.heap.size w1 w4.drew := below_drew hw4
    go_wp2_with fail
    refine wp_region_grow (Below w1.heap.size w1) (by kernel_rfl) (by kernel_rfl) h0J ?_
    apply grow_step
    · intro w' hw K hK
      go_simp
      exact hK
    · exact ⟨_, rfl, Nat.le_of_ble_eq_true rfl⟩
    · exact ⟨_, h0J⟩
    apply grow_step
    · intro w' hw K hK
      obtain ⟨c0, c1, c2, c3, c4, c5⟩ := HC.out w' hw
      go_simp
      exact hK
    · exact ⟨_, rfl, Nat.le_of_ble_eq_true rfl⟩
    · exact ⟨_, h0J⟩
    refine grow_call (fun w' hw => (HR.out w').mono fun e w'' ⟨he, hb⟩ => ⟨he, hw.trans (hb.mono hw.size)⟩) (by simp [Region.wanted]) (fun w' hw => by go_simp) ?_
    simp only [Act.put, List.setIfInBounds_toArray, List.set_cons_succ, List.set_cons_zero]
    apply grow_step
    · intro w' hw K hK
      go_simp
      exact hK
    · exact ⟨_, rfl, Nat.le_of_ble_eq_true rfl⟩
    · exact ⟨_, h0J⟩
    apply grow_step
    · intro w' hw K hK
      go_simp
      exact hK
    · exact ⟨_, rfl, Nat.le_of_ble_eq_true rfl⟩
    · exact ⟨_, h0J⟩
    apply grow_step
    · intro w' hw K hK
      go_simp
      exact hK
    · exact ⟨_, rfl, Nat.le_of_ble_eq_true rfl⟩
    · exact ⟨_, h0J⟩
    apply grow_step
    · intro w' hw K hK
      go_simp
      exact hK
    · exact ⟨_, rfl, Nat.le_of_ble_eq_true rfl⟩
    · exact ⟨_, h0J⟩
    apply grow_step
    · intro w' hw K hK
      go_simp
      exact hK
    · exact ⟨_, rfl, Nat.le_of_ble_eq_true rfl⟩
    · exact ⟨_, h0J⟩
    apply grow_step
    · intro w' hw K hK
      go_simp
      exact hK
    · exact ⟨_, rfl, Nat.le_of_ble_eq_true rfl⟩
    · exact ⟨_, h0J⟩
    apply grow_step
    · intro w' hw K hK
      go_simp
      exact hK
    · exact ⟨_, rfl, Nat.le_of_ble_eq_true rfl⟩
    · exact ⟨_, h0J⟩
    apply grow_step
    · intro w' hw K hK
      go_simp
      exact hK
    · exact ⟨_, rfl, Nat.le_of_ble_eq_true rfl⟩
    · exact ⟨_, h0J⟩
    apply grow_step
    · intro w' hw K hK
      go_simp
      exact hK
    · exact ⟨_, rfl, Nat.le_of_ble_eq_true rfl⟩
    · exact ⟨_, h0J⟩
    apply grow_step
    · intro w' hw K hK
      go_simp
      exact hK
    · exact ⟨_, rfl, Nat.le_of_ble_eq_true rfl⟩
    · exact ⟨_, h0J⟩
    apply grow_step
    · intro w' hw K hK
      obtain ⟨c0, c1, c2, c3, c4, c5⟩ := HC.out w' hw
      go_simp
      exact hK
    · exact ⟨_, rfl, Nat.le_of_ble_eq_true rfl⟩
    · exact ⟨_, h0J⟩
    refine grow_call (fun w' hw => (HT.out w').mono fun e w'' ⟨he, hb⟩ => ⟨he, hw.trans (hb.mono hw.size)⟩) (by go_simp) (fun w' hw => by go_simp) ?_
    simp only [Act.put, List.setIfInBounds_toArray, List.set_cons_succ, List.set_cons_zero]
    apply grow_step
    · intro w' hw K hK
      go_simp
      exact hK
    · exact ⟨_, rfl, Nat.le_of_ble_eq_true rfl⟩
    · exact ⟨_, h0J⟩
    apply grow_step
    · intro w' hw K hK
      go_simp
      exact hK
    · exact ⟨_, rfl, Nat.le_of_ble_eq_true rfl⟩
    · exact ⟨_, h0J⟩
    apply grow_step
    · intro w' hw K hK
      obtain ⟨c0, c1, c2, c3, c4, c5⟩ := HC.out w' hw
      go_simp
      exact hK
    · exact ⟨_, rfl, Nat.le_of_ble_eq_true rfl⟩
    · exact ⟨_, h0J⟩
    apply grow_step
    · intro w' hw K hK
      go_simp
      exact hK
    · exact ⟨_, rfl, Nat.le_of_ble_eq_true rfl⟩
    · exact ⟨_, h0J⟩
    apply grow_step
    · intro w' hw K hK
      have hwr : IntKind.i64.wrap (2 * (s.size : Int)) = 2 * (s.size : Int) := IntWalk.i64_in _ (by omega)
      go_simp
      exact hK
    · exact ⟨_, rfl, Nat.le_of_ble_eq_true rfl⟩
    · exact ⟨_, h0J⟩
    apply grow_step
    · intro w' hw K hK
      have hxs : (X.size : Int) = 2 * (s.size : Int) := by have := HXS.out; omega
      go_simp
      exact hK
    · exact ⟨_, rfl, Nat.le_of_ble_eq_true rfl⟩
    · exact ⟨_, h0J⟩
    apply grow_step
    · intro w' hw K hK
      go_simp
      exact hK
    · exact ⟨_, rfl, Nat.le_of_ble_eq_true rfl⟩
    · exact ⟨_, h0J⟩
    apply grow_step
    · intro w' hw K hK
      go_simp
      exact hK
    · exact ⟨_, rfl, Nat.le_of_ble_eq_true rfl⟩
    · exact ⟨_, h0J⟩
    refine grow_nil ?_
    intro w5 hw5
    go_wp2_with fail
    go_ret
    exact ⟨rfl, HBW.out.trans (hw5.mono HBW.out.size)⟩

theorem order_any (k : Int) (s : ByteArray) (l : Int) (t : ByteArray) (m : Int) (u : ByteArray) (w : World) :
    Calls Try.prog 3 #[.agg #[.int .i64 k, .string s], .agg #[.int .i64 l, .string t], .agg #[.int .i64 m, .string u]] w fun e w' => e = .returned (.bool true) ∧ Below w.heap.size w w' := by
  by_cases h1 : s.size ≤ 60
  · by_cases h2 : t.size ≤ 60
    · by_cases h3 : u.size ≤ 60
      · exact order_in k l m s t u w h1 h2 h3
      · exact order_out k l m s t u w (by omega)
    · exact order_out k l m s t u w (by omega)
  · exact order_out k l m s t u w (by omega)
end Go.Proofs.Ytpliknofjgbfjaa
