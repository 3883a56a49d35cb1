/-
  The reader of package bits, call by call: what each answers, and what it leaves in its own block; nothing else that was there turns.
-/
import Derived.Test.YtbaanoomilohhaaGreatDoorProg
import Derived.Test.YtbaanoomilohhaaGreatDoorWords
import Derived.Test.YtbaanoomilohhaaGreatDoorPure
import Derived.Test.YtbaanoomilohhaaGreatDoorShelf
import Derived.BigQuiet
import Derived.Deep.QuietTactic
import Derived.Outline
namespace Go.Proofs.YtbaanoomilohhaaGreatDoor
open Go.RowKit

/-- The reader's block: what is left, and the error. -/
def InAt (w : World) (g : Nat) (s : Rd) : Prop := Blk w g 133 #[.string s.b, .int .i64 s.e]

set_option maxHeartbeats 400000 in
/-- In.fail with no error ahead of it. -/
theorem in_fail_new (g : Nat) (s : Rd) (c : Int) (w : World) (h : InAt w g s) (he : s.e = 0) :
    Calls Tryz.prog 108 #[.pointer (some ⟨g, 0, none⟩), .int .i64 c] w fun e w' => e = .returned (.tuple #[]) ∧ InAt w' g ⟨.empty, c⟩ ∧ w.grownBy w' (some g) := by
  obtain ⟨b, e⟩ := s
  simp only at he
  subst he
  have c0 := Blk.cell h 0
  have c1 := Blk.cell h 1
  have f0 := Blk.frozen h 0
  have f1 := Blk.frozen h 1
  have hl := Blk.lt h
  simp at c0 c1
  go_enter Tryz.func108, Tryz.ntmps108
  go_wp2
  go_end0
  exact ⟨rfl, (Blk.put h 0 _).put 1 _, by_put (by_put (by_refl _ _) _ _) _ _⟩

set_option maxHeartbeats 400000 in
theorem take_nil (n : Int) (w : World) :
    Calls Tryz.prog 107 #[.pointer none, .int .i64 n] w fun e w' => e = .returned (.tuple #[.string .empty, .bool false]) ∧ w = w' := by
  go_enter Tryz.func107, Tryz.ntmps107
  go_wp2_with fail
  go_ret2
  exact ⟨rfl, rfl⟩

set_option maxHeartbeats 400000 in
theorem take_any (g : Nat) (s : Rd) (n : Int) (w : World) (h : InAt w g s) (hb : s.b.size ≤ 140737488351232) :
    Calls Tryz.prog 107 #[.pointer (some ⟨g, 0, none⟩), .int .i64 n] w fun e w' =>
      e = .returned (.tuple #[.string (s.take n).1, .bool (s.take n).2.1]) ∧ InAt w' g (s.take n).2.2 ∧ w.grownBy w' (some g) := by
  have H := h
  obtain ⟨b, e⟩ := s
  have c0 := Blk.cell h 0
  have c1 := Blk.cell h 1
  have f0 := Blk.frozen h 0
  have f1 := Blk.frozen h 1
  have hl := Blk.lt h
  simp at c0 c1 hb
  by_cases he : e = 0
  · subst he
    by_cases h0 : n < 0
    · have R : (Rd.mk b 0).take n = (.empty, false, ⟨.empty, 1⟩) := by simp [Rd.take, h0]
      rw [R]
      clear R
      go_enter Tryz.func107, Tryz.ntmps107
      go_wp2_with (go_at_call 108; refine (in_fail_new g _ 1 _ h rfl).mono ?_; rintro e w1 ⟨rfl, h1, hg1⟩)
      go_ret2
      exact ⟨rfl, h1, hg1⟩
    · have h0' : 0 ≤ n := by omega
      by_cases h1 : (b.size : Int) < n
      · have R : (Rd.mk b 0).take n = (.empty, false, ⟨.empty, 5⟩) := by simp [Rd.take, h0, h1]
        rw [R]
        clear R h0
        go_enter Tryz.func107, Tryz.ntmps107
        go_wp2_with (go_at_call 108; refine (in_fail_new g _ 5 _ h rfl).mono ?_; rintro e w1 ⟨rfl, h1, hg1⟩)
        go_ret2
        exact ⟨rfl, h1, hg1⟩
      · have h1' : n ≤ (b.size : Int) := by omega
        have R : (Rd.mk b 0).take n = (b.extract 0 n.toNat, true, ⟨b.extract n.toNat b.size, 0⟩) := by simp [Rd.take, h0, h1]
        rw [R]
        clear R h0 h1
        go_enter Tryz.func107, Tryz.ntmps107
        go_wp2_with fail
        go_ret2
        exact ⟨rfl, Blk.put h 0 _, by_put (by_refl _ _) _ _⟩
  · have R : (Rd.mk b e).take n = (.empty, false, ⟨b, e⟩) := by simp [Rd.take, he]
    rw [R]
    clear R
    have hc : (e != 0) = true := by rw [bne_iff_ne]; exact he
    go_enter Tryz.func107, Tryz.ntmps107
    go_wp2_with fail
    go_ret2
    exact ⟨rfl, h, by_refl _ _⟩

set_option maxHeartbeats 400000 in
theorem number_nil (k : Nat) (w : World) :
    Calls Tryz.prog 94 #[.pointer none, .int .i64 k] w fun e w' => e = .returned (.int .i64 0) ∧ w = w' := by
  go_enter Tryz.func94, Tryz.ntmps94
  go_wp2_with (go_at_call 107; refine (take_nil k _).mono ?_; rintro e w1 ⟨rfl, rfl⟩)
  go_ret
  exact ⟨rfl, rfl⟩


/-- What the bytes up to j+1 come to. -/
theorem low_next {x : ByteArray} {j k : Nat} (hs : x.size = k) (hj : j < k) (hk : k ≤ 8) :
    bits .or .u64 (low (x.data.toList.take j) : Int) (IntKind.u64.wrap (IntKind.u64.wrap ((x[j]'(by omega)).toNat : Int) * 2 ^ (8 * j))) = (low (x.data.toList.take (j + 1)) : Int) := by
  have hl : (x.data.toList.take j).length = j := by
    rw [List.length_take, Array.length_toList]
    have : x.data.size = k := hs
    omega
  rw [low_or _ _ j hl (by omega)]
  congr 2
  rw [List.take_succ_eq_append_getElem (by rw [Array.length_toList]; have : x.data.size = k := hs; omega)]
  rfl

set_option maxHeartbeats 1000000 in
theorem number_any (g : Nat) (s : Rd) (k : Nat) (w : World) (h : InAt w g s) (hb : s.b.size ≤ 140737488351232) (hk : k ≤ 8) :
    Calls Tryz.prog 94 #[.pointer (some ⟨g, 0, none⟩), .int .i64 k] w fun e w' =>
      e = .returned (.int .i64 (s.num k).1) ∧ InAt w' g (s.num k).2 ∧ w.grownBy w' (some g) := by
  by_cases ht : (s.take k).2.1 = true
  · have hsz := Rd.take_size ht
    have h0 : (s.take k).2.2.e = 0 := by rw [(Rd.take_yes ht).2.2.2.2]
    have hL : low (s.take k).1.data.toList < 18446744073709551616 :=
      Nat.lt_of_lt_of_le (low_lt _) (by rw [Array.length_toList]; exact Nat.le_trans (Nat.pow_le_pow_right (by omega) (show (s.take k).1.data.size ≤ 8 from by have : (s.take k).1.data.size = k := hsz; omega)) (by decide))
    have Hnum : Hid (s.num k = (if 9223372036854775807 < (low (s.take k).1.data.toList : Int) then (0, ⟨.empty, 6⟩) else ((low (s.take k).1.data.toList : Int), (s.take k).2.2))) := Lib.hid (by unfold Rd.num; rw [if_pos ht])
    have H0 := Lib.hid h0
    clear h0
    go_enter Tryz.func94, Tryz.ntmps94
    go_wp2_with (go_at_call 107; refine (take_any g s k _ h hb).mono ?_; rintro e w1 ⟨rfl, h1, hg1⟩)
    generalize (s.take k).1 = x at *
    generalize (s.take k).2.2 = s1 at *
    have Hsz := Lib.hid hsz
    have hsz1 : x.size ≤ k := by omega
    have hsz2 : k ≤ x.size := by omega
    clear hsz
    go_loop [7, 18] (fun n i => ∃ j : Nat, j ≤ k ∧ i = .int .i64 j ∧ n = .int .u64 (low (x.data.toList.take j))) (fun _ i => k - (intOf i).toNat)
    case atStart => exact ⟨0, Nat.zero_le _, rfl, rfl⟩
    case round =>
      obtain ⟨j, hj, rfl, rfl⟩ := hrel
      by_cases hlt : j < k
      · go_wp2
        go_round
        case rel => exact ⟨j + 1, by omega, by go_num, by rw [low_next Hsz.out hlt hk]⟩
        case measure => simp [intOf]; omega
      · have hjk : x.data.toList.take j = x.data.toList := List.take_of_length_le (by rw [Array.length_toList]; show x.size ≤ j; omega)
        rw [hjk]
        clear hjk
        generalize hV : low x.data.toList = V at *
        have HV := Lib.hid hV
        clear hV
        by_cases hbig : 9223372036854775807 < (V : Int)
        · go_wp2_with (go_at_call 108; refine (in_fail_new g s1 6 _ h1 H0.out).mono ?_; rintro e w2 ⟨rfl, h2, hg2⟩)
          go_ret
          rw [Hnum.out, if_pos hbig]
          exact ⟨rfl, h2, by_trans hg1 hg2⟩
        · go_wp2_with fail
          go_ret
          rw [Hnum.out, if_neg (by omega)]
          exact ⟨rfl, h1, hg1⟩
  · have Hnum : Hid (s.num k = (0, (s.take k).2.2)) := Lib.hid (by unfold Rd.num; rw [if_neg ht])
    have hf : (s.take k).2.1 = false := by simpa using ht
    go_enter Tryz.func94, Tryz.ntmps94
    go_wp2_with (go_at_call 107; refine (take_any g s k _ h hb).mono ?_; rintro e w1 ⟨rfl, h1, hg1⟩)
    go_ret
    rw [Hnum.out]
    exact ⟨rfl, h1, hg1⟩

set_option maxHeartbeats 400000 in
theorem in_byte (g : Nat) (s : Rd) (w : World) (h : InAt w g s) (hb : s.b.size ≤ 140737488351232) :
    Calls Tryz.prog 75 #[.pointer (some ⟨g, 0, none⟩)] w fun e w' => e = .returned (.int .i64 (s.num 1).1) ∧ InAt w' g (s.num 1).2 ∧ w.grownBy w' (some g) := by
  go_enter Tryz.func75, Tryz.ntmps75
  go_wp2_with (go_at_call 94; refine (number_any g s 1 _ h hb (by omega)).mono ?_; rintro e w1 ⟨rfl, h1, hg1⟩)
  go_ret
  exact ⟨rfl, h1, hg1⟩
set_option maxHeartbeats 400000 in
theorem in_half (g : Nat) (s : Rd) (w : World) (h : InAt w g s) (hb : s.b.size ≤ 140737488351232) :
    Calls Tryz.prog 77 #[.pointer (some ⟨g, 0, none⟩)] w fun e w' => e = .returned (.int .i64 (s.num 2).1) ∧ InAt w' g (s.num 2).2 ∧ w.grownBy w' (some g) := by
  go_enter Tryz.func77, Tryz.ntmps77
  go_wp2_with (go_at_call 94; refine (number_any g s 2 _ h hb (by omega)).mono ?_; rintro e w1 ⟨rfl, h1, hg1⟩)
  go_ret
  exact ⟨rfl, h1, hg1⟩
set_option maxHeartbeats 400000 in
theorem in_word (g : Nat) (s : Rd) (w : World) (h : InAt w g s) (hb : s.b.size ≤ 140737488351232) :
    Calls Tryz.prog 73 #[.pointer (some ⟨g, 0, none⟩)] w fun e w' => e = .returned (.int .i64 (s.num 4).1) ∧ InAt w' g (s.num 4).2 ∧ w.grownBy w' (some g) := by
  go_enter Tryz.func73, Tryz.ntmps73
  go_wp2_with (go_at_call 94; refine (number_any g s 4 _ h hb (by omega)).mono ?_; rintro e w1 ⟨rfl, h1, hg1⟩)
  go_ret
  exact ⟨rfl, h1, hg1⟩
set_option maxHeartbeats 400000 in
theorem in_long (g : Nat) (s : Rd) (w : World) (h : InAt w g s) (hb : s.b.size ≤ 140737488351232) :
    Calls Tryz.prog 76 #[.pointer (some ⟨g, 0, none⟩)] w fun e w' => e = .returned (.int .i64 (s.num 8).1) ∧ InAt w' g (s.num 8).2 ∧ w.grownBy w' (some g) := by
  go_enter Tryz.func76, Tryz.ntmps76
  go_wp2_with (go_at_call 94; refine (number_any g s 8 _ h hb (by omega)).mono ?_; rintro e w1 ⟨rfl, h1, hg1⟩)
  go_ret
  exact ⟨rfl, h1, hg1⟩

set_option maxHeartbeats 400000 in
theorem clone_any (s : ByteArray) (w : World) (hlim : s.size ≤ 281474976710656) :
    Calls Tryz.prog 51 #[.string s] w fun e w' => e = .returned (.string s) ∧ Below w.heap.size w w' := by
  go_enter Tryz.func51, Tryz.ntmps51
  go_wp2_with (go_at_call 64; refine (clone_lite s _ hlim).mono ?_; rintro e w1 ⟨rfl, hb1⟩)
  go_ret
  exact ⟨rfl, hb1⟩

set_option maxHeartbeats 400000 in
theorem on_any (b : ByteArray) (w : World) (hb : b.size ≤ 140737488351232) :
    Calls Tryz.prog 72 #[.string b] w fun e w' => ∃ g, e = .returned (.pointer (some ⟨g, 0, none⟩)) ∧ w.heap.size ≤ g ∧ InAt w' g ⟨b, 0⟩ ∧ Below w.heap.size w w' := by
  go_enter Tryz.func72, Tryz.ntmps72
  go_wp2_with (go_at_call 51; refine (clone_any b _ (by omega)).mono ?_; rintro e w1 ⟨rfl, hb1⟩)
  go_ret
  exact ⟨_, rfl, hb1.size, Blk.new _ _ _, hb1.alloc hb1.size _⟩

/- A reader that is nil. -/
set_option maxHeartbeats 400000 in
theorem byte_nil (w : World) : Calls Tryz.prog 75 #[.pointer none] w fun e w' => e = .returned (.int .i64 0) ∧ w = w' := by
  go_enter Tryz.func75, Tryz.ntmps75
  go_wp2_with (go_at_call 94; refine (number_nil 1 _).mono ?_; rintro e w1 ⟨rfl, rfl⟩)
  go_ret
  exact ⟨rfl, rfl⟩
set_option maxHeartbeats 400000 in
theorem half_nil (w : World) : Calls Tryz.prog 77 #[.pointer none] w fun e w' => e = .returned (.int .i64 0) ∧ w = w' := by
  go_enter Tryz.func77, Tryz.ntmps77
  go_wp2_with (go_at_call 94; refine (number_nil 2 _).mono ?_; rintro e w1 ⟨rfl, rfl⟩)
  go_ret
  exact ⟨rfl, rfl⟩
set_option maxHeartbeats 400000 in
theorem word_nil (w : World) : Calls Tryz.prog 73 #[.pointer none] w fun e w' => e = .returned (.int .i64 0) ∧ w = w' := by
  go_enter Tryz.func73, Tryz.ntmps73
  go_wp2_with (go_at_call 94; refine (number_nil 4 _).mono ?_; rintro e w1 ⟨rfl, rfl⟩)
  go_ret
  exact ⟨rfl, rfl⟩
set_option maxHeartbeats 400000 in
theorem long_nil (w : World) : Calls Tryz.prog 76 #[.pointer none] w fun e w' => e = .returned (.int .i64 0) ∧ w = w' := by
  go_enter Tryz.func76, Tryz.ntmps76
  go_wp2_with (go_at_call 94; refine (number_nil 8 _).mono ?_; rintro e w1 ⟨rfl, rfl⟩)
  go_ret
  exact ⟨rfl, rfl⟩
end Go.Proofs.YtbaanoomilohhaaGreatDoor
