/-
  The document's own reader (package masonryref1), call by call, against the same plain reader.
-/
import Derived.Test.YtdfickppfihiiaaDoorIn
namespace Go.Proofs.YtdfickppfihiiaaDoor
open Go.RowKit

/-- The reference reader's block: it keeps its bytes behind an error. -/
def RefAt (w : World) (g : Nat) (s : Rd) : Prop := s.ok ∧ ∃ b, Blk w g 30 #[.string b, .int .i64 s.e] ∧ (s.e = 0 → b = s.b) ∧ b.size ≤ 140737488351232
theorem RefAt.grown {w w' : World} {g : Nat} {s : Rd} {row : Option Nat} (h : RefAt w g s) (hg : w.grownBy w' row) (hne : some g ≠ row) : RefAt w' g s := by
  obtain ⟨h0, b, h1, h2, h3⟩ := h
  exact ⟨h0, b, h1.grown hg hne, h2, h3⟩
theorem RefAt.lt {w : World} {g : Nat} {s : Rd} (h : RefAt w g s) : g < w.heap.size := by
  obtain ⟨_, b, h1, _⟩ := h
  exact h1.lt

set_option maxHeartbeats 800000 in
theorem ref_raw (g : Nat) (s : Rd) (n : Int) (w : World) (h : RefAt w g s) :
    Calls Tryd.prog 20 #[.pointer (some ⟨g, 0, none⟩), .int .i64 n] w fun e w' => e = .returned (.string (s.raw n).1) ∧ RefAt w' g (s.raw n).2 ∧ w.grownBy w' (some g) := by
  have H := Lib.hid h
  obtain ⟨hok, b, hb, he0, hsz⟩ := h
  obtain ⟨sb, e⟩ := s
  simp only at hb he0
  have c0 := hb.cell 0
  have c1 := hb.cell 1
  have f0 := hb.frozen 0
  have f1 := hb.frozen 1
  have hl := hb.lt
  simp at c0 c1
  have HB := Lib.hid hb
  clear hb hok
  by_cases he : e = 0
  · subst he
    obtain rfl : b = sb := he0 rfl
    clear he0
    by_cases h0 : n < 0
    · have R : (Rd.mk b 0).raw n = (.empty, ⟨.empty, 1⟩) := by simp [Rd.raw, Rd.take, h0]
      rw [R]
      clear R
      go_enter Tryd.func20, Tryd.ntmps20
      go_wp2_with fail
      go_ret
      exact ⟨rfl, ⟨fun _ => rfl, b, HB.out.put 1 _, (fun h => by cases h), hsz⟩, by_put (by_refl _ _) _ _⟩
    · have h0' : 0 ≤ n := by omega
      by_cases h1 : (b.size : Int) < n
      · have R : (Rd.mk b 0).raw n = (.empty, ⟨.empty, 5⟩) := by simp [Rd.raw, Rd.take, h0, h1]
        rw [R]
        clear R h0
        go_enter Tryd.func20, Tryd.ntmps20
        go_wp2_with fail
        go_ret
        exact ⟨rfl, ⟨fun _ => rfl, b, HB.out.put 1 _, (fun h => by cases h), hsz⟩, by_put (by_refl _ _) _ _⟩
      · have h1' : n ≤ (b.size : Int) := by omega
        have R : (Rd.mk b 0).raw n = (b.extract 0 n.toNat, ⟨b.extract n.toNat b.size, 0⟩) := by simp [Rd.raw, Rd.take, h0, h1]
        rw [R]
        clear R h0 h1
        go_enter Tryd.func20, Tryd.ntmps20
        go_wp2_with fail
        go_ret
        exact ⟨rfl, ⟨fun h => (h rfl).elim, _, HB.out.put 0 _, fun _ => rfl, by simp; omega⟩, by_put (by_refl _ _) _ _⟩
  · have R : (Rd.mk sb e).raw n = (.empty, ⟨sb, e⟩) := by simp [Rd.raw, Rd.take, he]
    rw [R]
    clear R
    have hc : (e != 0) = true := by rw [bne_iff_ne]; exact he
    go_enter Tryd.func20, Tryd.ntmps20
    go_wp2_with fail
    go_ret
    exact ⟨rfl, H.out, by_refl _ _⟩

theorem low_drop {x : ByteArray} {j : Nat} (hj : j < x.size) : low (x.data.toList.drop j) = (x[j]).toNat + 256 * low (x.data.toList.drop (j + 1)) := by
  have hl : j < x.data.toList.length := by rw [Array.length_toList]; exact hj
  rw [List.drop_eq_getElem_cons hl, low]
  rfl

theorem low_up (x : UInt8) (V : Nat) (hv : V < 72057594037927936) : IntKind.u64.wrap ((V : Int) * 256 + IntKind.u64.wrap (x.toNat : Int)) = ((x.toNat + 256 * V : Nat) : Int) := by
  have h := x.toNat_lt
  rw [IntWalk.u64_in (x.toNat : Int) (by omega), IntWalk.u64_in _ (by omega)]
  omega

set_option maxHeartbeats 800000 in
/-- The number of bytes, from the highest on. -/
theorem ref_low (x : ByteArray) (w : World) (hx : x.size ≤ 8) :
    Calls Tryd.prog 38 #[.string x] w fun e w' => e = .returned (.int .u64 (low x.data.toList)) ∧ w = w' := by
  go_enter Tryd.func38, Tryd.ntmps38
  go_wp2_with fail
  go_loop [3, 4] (fun v i => ∃ j : Nat, j ≤ x.size ∧ i = .int .i64 ((j : Int) - 1) ∧ v = .int .u64 (low (x.data.toList.drop j))) (fun _ i => (intOf i + 1).toNat)
  case atStart => exact ⟨x.size, Nat.le_refl _, rfl, by rw [List.drop_of_length_le (by rw [Array.length_toList]; exact Nat.le_refl _)]; rfl⟩
  case round =>
    obtain ⟨j, hj, rfl, rfl⟩ := hrel
    by_cases hlt : 0 < j
    · obtain ⟨k, rfl⟩ : ∃ k, j = k + 1 := ⟨j - 1, by omega⟩
      have hv : low (x.data.toList.drop (k + 1)) < 72057594037927936 := by
        refine Nat.lt_of_lt_of_le (low_lt _) (Nat.le_trans (Nat.pow_le_pow_right (by omega) (show _ ≤ 7 from ?_)) (by decide))
        rw [List.length_drop, Array.length_toList]
        show x.size - (k + 1) ≤ 7
        omega
      have hd := low_drop (x := x) (j := k) (by omega)
      generalize low (x.data.toList.drop (k + 1)) = V at *
      have HD := Lib.hid hd
      clear hd
      go_wp2_with fail
      go_round
      case rel => exact ⟨k, by omega, rfl, by rw [HD.out, low_up x[k] V hv]⟩
      case measure => simp [intOf] <;> omega
    · obtain rfl : j = 0 := by omega
      go_wp2_with fail
      go_ret
      exact ⟨rfl, rfl⟩

theorem raw_low (s : Rd) (k : Nat) (hk : k ≤ 8) : (s.raw k).1.size ≤ 8 := by
  unfold Rd.raw Rd.take
  split
  · simp
  · split
    · simp
    · split
      · simp
      · simp <;> omega
/-- What the reference's number is made of. -/
theorem num_raw (s : Rd) (k : Nat) : s.num k = if 9223372036854775807 < (low (s.raw k).1.data.toList : Int) then (0, ⟨.empty, 6⟩) else ((low (s.raw k).1.data.toList : Int), (s.raw k).2) := by
  unfold Rd.num Rd.raw
  by_cases h : (s.take k).2.1 = true
  · rw [if_pos h]
  · rw [if_neg h]
    have e : (s.take k).1 = .empty := by
      unfold Rd.take at h ⊢
      split
      · rfl
      · rename_i h0
        rw [if_neg h0] at h
        split
        · rfl
        · rename_i h1
          rw [if_neg h1] at h
          split
          · rfl
          · rename_i h2
            rw [if_neg h2] at h
            simp at h
    rw [e]
    simp [low]

set_option maxHeartbeats 800000 in
theorem ref_num (g : Nat) (s : Rd) (k : Nat) (w : World) (h : RefAt w g s) (hk : k ≤ 8) :
    Calls Tryd.prog 13 #[.pointer (some ⟨g, 0, none⟩), .int .i64 k] w fun e w' => e = .returned (.int .i64 (s.num k).1) ∧ RefAt w' g (s.num k).2 ∧ w.grownBy w' (some g) := by
  have hx := raw_low s k hk
  have hL : low (s.raw k).1.data.toList < 18446744073709551616 :=
    Nat.lt_of_lt_of_le (low_lt _) (Nat.le_trans (Nat.pow_le_pow_right (by omega) (show _ ≤ 8 by rw [Array.length_toList]; exact hx)) (by decide))
  have HN := Lib.hid (num_raw s k)
  have HX := Lib.hid hx
  have HLL := Lib.hid hL
  clear hx hL
  go_enter Tryd.func13, Tryd.ntmps13
  go_wp2_with fail
  with_reducible refine (ref_raw g s k _ h).mono ?_
  rintro e w1 ⟨rfl, h1, hg1⟩
  generalize (s.raw k).1 = x at *
  generalize (s.raw k).2 = s1 at *
  clear h
  go_wp2_with fail
  with_reducible refine (ref_low x _ HX.out).mono ?_
  rintro e w2 ⟨rfl, rfl⟩
  have hz0 : 0 ≤ (low x.data.toList : Int) := by omega
  generalize (low x.data.toList : Int) = Z at *
  by_cases hbig : 9223372036854775807 < Z
  · obtain ⟨_, b, hb, _, hsz⟩ := h1
    have c1 := hb.cell 1
    have f1 := hb.frozen 1
    simp at c1
    have HB := Lib.hid hb
    clear hb
    go_wp2_with fail
    go_ret
    rw [HN.out, if_pos hbig]
    exact ⟨rfl, ⟨fun _ => rfl, b, HB.out.put 1 _, (fun h => by cases h), hsz⟩, by_put hg1 _ _⟩
  · go_wp2_with fail
    go_ret
    rw [HN.out, if_neg (by omega)]
    exact ⟨rfl, h1, hg1⟩

set_option maxHeartbeats 800000 in
theorem ref_text (g : Nat) (s : Rd) (w : World) (h : RefAt w g s) :
    Calls Tryd.prog 18 #[.pointer (some ⟨g, 0, none⟩)] w fun e w' => e = .returned (.string s.text.1) ∧ RefAt w' g s.text.2 ∧ w.grownBy w' (some g) := by
  go_enter Tryd.func18, Tryd.ntmps18
  go_wp2_with fail
  refine (ref_num g s 2 _ h (by omega)).mono ?_
  rintro e w1 ⟨rfl, h1, hg1⟩
  go_wp2_with fail
  with_reducible refine (ref_raw g (s.num 2).2 (s.num 2).1 _ h1).mono ?_
  rintro e w2 ⟨rfl, h2, hg2⟩
  go_wp2_with fail
  go_ret
  exact ⟨rfl, h2, by_trans hg1 hg2⟩

set_option maxHeartbeats 800000 in
theorem ref_left (g : Nat) (s : Rd) (w : World) (h : RefAt w g s) :
    Calls Tryd.prog 22 #[.pointer (some ⟨g, 0, none⟩)] w fun e w' => e = .returned (.int .i64 s.b.size) ∧ w = w' := by
  obtain ⟨hok, b, hb, he0, _⟩ := h
  obtain ⟨sb, e⟩ := s
  simp only at hb he0
  have c0 := hb.cell 0
  have c1 := hb.cell 1
  simp at c0 c1
  clear hb
  by_cases he : e = 0
  · subst he
    obtain rfl : b = sb := he0 rfl
    clear hok he0
    go_enter Tryd.func22, Tryd.ntmps22
    go_wp2_with fail
    go_ret
    exact ⟨rfl, rfl⟩
  · obtain rfl : sb = .empty := hok he
    have hc : (e != 0) = true := by rw [bne_iff_ne]; exact he
    clear hok he0
    go_enter Tryd.func22, Tryd.ntmps22
    go_wp2_with fail
    go_ret
    exact ⟨rfl, rfl⟩

set_option maxHeartbeats 800000 in
theorem ref_rest (g : Nat) (s : Rd) (w : World) (h : RefAt w g s) :
    Calls Tryd.prog 24 #[.pointer (some ⟨g, 0, none⟩)] w fun e w' => e = .returned (.bool s.rest) ∧ w = w' := by
  obtain ⟨hok, b, hb, he0, hsz⟩ := h
  obtain ⟨sb, e⟩ := s
  simp only at hb he0
  have c0 := hb.cell 0
  have c1 := hb.cell 1
  simp at c0 c1
  have HR : Hid (Rd.rest ⟨sb, e⟩ = ((e == 0) && b.data.toList.all (· == 0))) := Lib.hid (by
    unfold Rd.rest
    by_cases he : e = 0
    · rw [he0 he]
    · have h0 : (e == 0) = false := beq_eq_false_iff_ne.2 he
      show ((e == 0) && _) = _
      rw [h0, Bool.false_and, Bool.false_and])
  clear hb hok he0
  go_enter Tryd.func24, Tryd.ntmps24
  go_wp2_with fail
  go_loop [3] (fun i => ∃ j : Nat, j ≤ b.size ∧ i = .int .i64 j ∧ (b.data.toList.take j).all (· == 0) = true) (fun i => b.size - (intOf i).toNat)
  case atStart => exact ⟨0, Nat.zero_le _, rfl, by simp⟩
  case round =>
    obtain ⟨j, hj, rfl, hall⟩ := hrel
    have HA := Lib.hid hall
    clear hall
    by_cases hlt : j < b.size
    · have hjl : j < b.data.toList.length := by rw [Array.length_toList]; exact hlt
      have htk : b.data.toList.take (j + 1) = b.data.toList.take j ++ [b[j]] := by
        rw [List.take_succ_eq_append_getElem hjl]; rfl
      by_cases hz : (b[j]).toNat = 0
      · have hq : ((b[j].toNat : Int) != 0) = false := by simp [hz]
        have HN := Lib.hid (show (b.data.toList.take (j + 1)).all (· == 0) = true by
          rw [htk, List.all_append, HA.out]
          simp only [Bool.true_and, List.all_cons, List.all_nil, Bool.and_true, beq_iff_eq]
          exact UInt8.toNat_inj.1 (by simpa using hz))
        clear htk hz
        go_wp2_with fail
        go_round
        case rel => exact ⟨j + 1, by omega, by go_num, HN.out⟩
        case measure => simp [intOf]; omega
      · have hq : ((b[j].toNat : Int) != 0) = true := by rw [bne_iff_ne]; omega
        have HN := Lib.hid (show b.data.toList.all (· == 0) = false by
          rw [List.all_eq_false]
          refine ⟨b[j], ?_, ?_⟩
          · have : b[j] = b.data.toList[j] := rfl
            rw [this]
            exact List.getElem_mem hjl
          · intro h
            rw [beq_iff_eq] at h
            exact hz (by rw [h]; rfl))
        clear htk hz
        go_wp2_with fail
        go_ret
        rw [HR.out, HN.out, Bool.and_false]
        exact ⟨rfl, rfl⟩
    · obtain rfl : j = b.size := by omega
      have HN := Lib.hid (show b.data.toList.all (· == 0) = true by
        have h := HA.out
        rw [List.take_of_length_le (by rw [Array.length_toList]; exact Nat.le_refl _)] at h
        exact h)
      go_wp2_with fail
      go_ret
      rw [HR.out, HN.out, Bool.and_true]
      exact ⟨rfl, rfl⟩

set_option maxHeartbeats 800000 in
theorem ref_end (g : Nat) (s : Rd) (w : World) (h : RefAt w g s) :
    Calls Tryd.prog 26 #[.pointer (some ⟨g, 0, none⟩)] w fun e w' => e = .returned (.int .i64 s.fin.1) ∧ RefAt w' g s.fin.2 ∧ w.grownBy w' (some g) := by
  have H := Lib.hid h
  obtain ⟨hok, b, hb, he0, hsz⟩ := h
  have c0 := hb.cell 0
  have c1 := hb.cell 1
  have f1 := hb.frozen 1
  simp at c0 c1
  have HB := Lib.hid hb
  clear hb hok he0
  by_cases he : s.e = 0
  · rw [he] at c1
    cases hr : s.rest with
    | true =>
      have R : s.fin = (s.e, s) := by unfold Rd.fin; rw [if_pos hr]
      rw [R, he]
      clear R he
      go_enter Tryd.func26, Tryd.ntmps26
      go_wp2_with fail
      with_reducible refine (ref_rest g s _ H.out).mono ?_
      rintro e w1 ⟨rfl, rfl⟩
      rw [hr]
      go_wp2_with fail
      go_ret
      exact ⟨rfl, H.out, by_refl _ _⟩
    | false =>
      have R : s.fin = (6, ⟨.empty, 6⟩) := by
        unfold Rd.fin Rd.fail
        rw [if_neg (by rw [hr]; simp), if_pos he]
      rw [R]
      clear R he
      go_enter Tryd.func26, Tryd.ntmps26
      go_wp2_with fail
      with_reducible refine (ref_rest g s _ H.out).mono ?_
      rintro e w1 ⟨rfl, rfl⟩
      rw [hr]
      go_wp2_with fail
      go_ret
      exact ⟨rfl, ⟨fun _ => rfl, b, HB.out.put 1 _, (fun h => by cases h), hsz⟩, by_put (by_refl _ _) _ _⟩
  · have R : s.fin = (s.e, s) := by
      unfold Rd.fin Rd.fail
      split
      · rfl
      · first | rfl | rw [if_neg he]
    rw [R]
    clear R
    have hc : (s.e == 0) = false := beq_eq_false_iff_ne.2 he
    go_enter Tryd.func26, Tryd.ntmps26
    go_wp2_with fail
    go_ret
    exact ⟨rfl, H.out, by_refl _ _⟩
end Go.Proofs.YtdfickppfihiiaaDoor
