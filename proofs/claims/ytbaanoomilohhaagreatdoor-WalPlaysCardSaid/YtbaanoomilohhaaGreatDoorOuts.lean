/-
  The writer of package bits, call by call: what each leaves of it; of a nil writer nothing is laid.
-/
import Derived.Test.YtbaanoomilohhaaGreatDoorNums
import Derived.Test.YtbaanoomilohhaaGreatDoorTexts
import Derived.Test.YtbaanoomilohhaaGreatDoorEnd
namespace Go.Proofs.YtbaanoomilohhaaGreatDoor
open Go.RowKit

/-- What may stand in a list of numbers. -/
def InRange (xs : List Int) : Prop := ∀ x ∈ xs, -9223372036854775808 ≤ x ∧ x ≤ 9223372036854775807

set_option maxHeartbeats 400000 in
theorem numbers_any (k : Nat) (hk : k ≤ 8) (o : Nat) (s : Wr) (A : Option Addr) (n c : Nat) (xs : List Int) (w : World) (hn : xs.length = n) (hx : Ints w w.heap.size A xs) (hlen : xs.length * 8 ≤ 140737488351232) (hr : InRange xs) (h : OutAt w o s) (hs : s.l.length ≤ 140737488351232) :
    Calls Tryz.prog 97 #[.pointer (some ⟨o, 0, none⟩), .int .i64 k, .slice A n c] w fun e w' => e = .returned (.pointer (some ⟨o, 0, none⟩)) ∧ OutAt w' o (s.nums k xs) ∧ w.grownBy w' (some o) := by
  subst hn
  have hm : xs.length * k ≤ xs.length * 8 := Nat.mul_le_mul_left _ hk
  have key := numbers_core (some ⟨o, 0, none⟩) k hk A c xs w hx hlen hr (fun ok w' => OutAt w' o (if ok = true then s.lay (allBytes k xs) else s.fail 1) ∧ w.grownBy w' (some o))
    (fun w1 hb => (fail_any o s 1 w1 (h.below hb)).mono fun e w' ⟨he, h1, h2⟩ => ⟨he, by simpa using h1, by_trans (by_below hb (Nat.le_refl _)) h2⟩)
    (fun w1 hb => (lay_any o s _ w1 (h.below hb) (by rw [Lib.size_eq]; show _ + (allBytes k xs).length ≤ _; rw [allBytes_length]; omega)).mono fun e w' ⟨he, h1, h2⟩ => ⟨he, by simpa using h1, by_trans (by_below hb (Nat.le_refl _)) h2⟩)
  exact key
set_option maxHeartbeats 400000 in
theorem numbers_nil (k : Nat) (hk : k ≤ 8) (A : Option Addr) (n c : Nat) (xs : List Int) (w : World) (hn : xs.length = n) (hx : Ints w w.heap.size A xs) (hlen : xs.length * 8 ≤ 140737488351232) (hr : InRange xs) :
    Calls Tryz.prog 97 #[.pointer none, .int .i64 k, .slice A n c] w fun e w' => e = .returned (.pointer none) ∧ Below w.heap.size w w' := by
  subst hn
  exact numbers_core none k hk A c xs w hx hlen hr (fun _ w' => Below w.heap.size w w')
    (fun w1 hb => (fail_nil 1 w1).mono fun e w' ⟨he, hw⟩ => ⟨he, by subst hw; exact hb⟩)
    (fun w1 hb => (lay_nil _ w1).mono fun e w' ⟨he, hw⟩ => ⟨he, by subst hw; exact hb⟩)

set_option maxHeartbeats 400000 in
theorem out_byte (o : Nat) (s : Wr) (A : Option Addr) (n c : Nat) (xs : List Int) (w : World) (hn : xs.length = n) (hx : Ints w w.heap.size A xs) (hlen : xs.length * 8 ≤ 140737488351232) (hr : InRange xs) (h : OutAt w o s) (hs : s.l.length ≤ 140737488351232) :
    Calls Tryz.prog 79 #[.pointer (some ⟨o, 0, none⟩), .slice A n c] w fun e w' => e = .returned (.pointer (some ⟨o, 0, none⟩)) ∧ OutAt w' o (s.nums 1 xs) ∧ w.grownBy w' (some o) := by
  have H := Lib.hid (numbers_any 1 (by omega) o s A n c xs w hn hx hlen hr h hs)
  clear hn hx hlen hr h hs
  go_enter Tryz.func79, Tryz.ntmps79
  go_wp2_with (go_at_call 97; refine H.out.mono ?_; rintro e w1 ⟨rfl, h1, hg1⟩)
  go_ret
  exact ⟨rfl, h1, hg1⟩
set_option maxHeartbeats 400000 in
theorem out_byte_nil (A : Option Addr) (n c : Nat) (xs : List Int) (w : World) (hn : xs.length = n) (hx : Ints w w.heap.size A xs) (hlen : xs.length * 8 ≤ 140737488351232) (hr : InRange xs) :
    Calls Tryz.prog 79 #[.pointer none, .slice A n c] w fun e w' => e = .returned (.pointer none) ∧ Below w.heap.size w w' := by
  have H := Lib.hid (numbers_nil 1 (by omega) A n c xs w hn hx hlen hr)
  clear hn hx hlen hr
  go_enter Tryz.func79, Tryz.ntmps79
  go_wp2_with (go_at_call 97; refine H.out.mono ?_; rintro e w1 ⟨rfl, hb1⟩)
  go_ret
  exact ⟨rfl, hb1⟩

set_option maxHeartbeats 400000 in
theorem out_half (o : Nat) (s : Wr) (A : Option Addr) (n c : Nat) (xs : List Int) (w : World) (hn : xs.length = n) (hx : Ints w w.heap.size A xs) (hlen : xs.length * 8 ≤ 140737488351232) (hr : InRange xs) (h : OutAt w o s) (hs : s.l.length ≤ 140737488351232) :
    Calls Tryz.prog 81 #[.pointer (some ⟨o, 0, none⟩), .slice A n c] w fun e w' => e = .returned (.pointer (some ⟨o, 0, none⟩)) ∧ OutAt w' o (s.nums 2 xs) ∧ w.grownBy w' (some o) := by
  have H := Lib.hid (numbers_any 2 (by omega) o s A n c xs w hn hx hlen hr h hs)
  clear hn hx hlen hr h hs
  go_enter Tryz.func81, Tryz.ntmps81
  go_wp2_with (go_at_call 97; refine H.out.mono ?_; rintro e w1 ⟨rfl, h1, hg1⟩)
  go_ret
  exact ⟨rfl, h1, hg1⟩
set_option maxHeartbeats 400000 in
theorem out_half_nil (A : Option Addr) (n c : Nat) (xs : List Int) (w : World) (hn : xs.length = n) (hx : Ints w w.heap.size A xs) (hlen : xs.length * 8 ≤ 140737488351232) (hr : InRange xs) :
    Calls Tryz.prog 81 #[.pointer none, .slice A n c] w fun e w' => e = .returned (.pointer none) ∧ Below w.heap.size w w' := by
  have H := Lib.hid (numbers_nil 2 (by omega) A n c xs w hn hx hlen hr)
  clear hn hx hlen hr
  go_enter Tryz.func81, Tryz.ntmps81
  go_wp2_with (go_at_call 97; refine H.out.mono ?_; rintro e w1 ⟨rfl, hb1⟩)
  go_ret
  exact ⟨rfl, hb1⟩

set_option maxHeartbeats 400000 in
theorem out_word (o : Nat) (s : Wr) (A : Option Addr) (n c : Nat) (xs : List Int) (w : World) (hn : xs.length = n) (hx : Ints w w.heap.size A xs) (hlen : xs.length * 8 ≤ 140737488351232) (hr : InRange xs) (h : OutAt w o s) (hs : s.l.length ≤ 140737488351232) :
    Calls Tryz.prog 101 #[.pointer (some ⟨o, 0, none⟩), .slice A n c] w fun e w' => e = .returned (.pointer (some ⟨o, 0, none⟩)) ∧ OutAt w' o (s.nums 4 xs) ∧ w.grownBy w' (some o) := by
  have H := Lib.hid (numbers_any 4 (by omega) o s A n c xs w hn hx hlen hr h hs)
  clear hn hx hlen hr h hs
  go_enter Tryz.func101, Tryz.ntmps101
  go_wp2_with (go_at_call 97; refine H.out.mono ?_; rintro e w1 ⟨rfl, h1, hg1⟩)
  go_ret
  exact ⟨rfl, h1, hg1⟩
set_option maxHeartbeats 400000 in
theorem out_word_nil (A : Option Addr) (n c : Nat) (xs : List Int) (w : World) (hn : xs.length = n) (hx : Ints w w.heap.size A xs) (hlen : xs.length * 8 ≤ 140737488351232) (hr : InRange xs) :
    Calls Tryz.prog 101 #[.pointer none, .slice A n c] w fun e w' => e = .returned (.pointer none) ∧ Below w.heap.size w w' := by
  have H := Lib.hid (numbers_nil 4 (by omega) A n c xs w hn hx hlen hr)
  clear hn hx hlen hr
  go_enter Tryz.func101, Tryz.ntmps101
  go_wp2_with (go_at_call 97; refine H.out.mono ?_; rintro e w1 ⟨rfl, hb1⟩)
  go_ret
  exact ⟨rfl, hb1⟩

set_option maxHeartbeats 400000 in
theorem out_long (o : Nat) (s : Wr) (A : Option Addr) (n c : Nat) (xs : List Int) (w : World) (hn : xs.length = n) (hx : Ints w w.heap.size A xs) (hlen : xs.length * 8 ≤ 140737488351232) (hr : InRange xs) (h : OutAt w o s) (hs : s.l.length ≤ 140737488351232) :
    Calls Tryz.prog 80 #[.pointer (some ⟨o, 0, none⟩), .slice A n c] w fun e w' => e = .returned (.pointer (some ⟨o, 0, none⟩)) ∧ OutAt w' o (s.nums 8 xs) ∧ w.grownBy w' (some o) := by
  have H := Lib.hid (numbers_any 8 (by omega) o s A n c xs w hn hx hlen hr h hs)
  clear hn hx hlen hr h hs
  go_enter Tryz.func80, Tryz.ntmps80
  go_wp2_with (go_at_call 97; refine H.out.mono ?_; rintro e w1 ⟨rfl, h1, hg1⟩)
  go_ret
  exact ⟨rfl, h1, hg1⟩
set_option maxHeartbeats 400000 in
theorem out_long_nil (A : Option Addr) (n c : Nat) (xs : List Int) (w : World) (hn : xs.length = n) (hx : Ints w w.heap.size A xs) (hlen : xs.length * 8 ≤ 140737488351232) (hr : InRange xs) :
    Calls Tryz.prog 80 #[.pointer none, .slice A n c] w fun e w' => e = .returned (.pointer none) ∧ Below w.heap.size w w' := by
  have H := Lib.hid (numbers_nil 8 (by omega) A n c xs w hn hx hlen hr)
  clear hn hx hlen hr
  go_enter Tryz.func80, Tryz.ntmps80
  go_wp2_with (go_at_call 97; refine H.out.mono ?_; rintro e w1 ⟨rfl, hb1⟩)
  go_ret
  exact ⟨rfl, hb1⟩

theorem out_raw (o : Nat) (s : Wr) (A : Option Addr) (n c : Nat) (xs : List ByteArray) (w : World) (hn : xs.length = n) (hx : Txts w w.heap.size A xs) (hlen : xs.length ≤ 140737488351232) (hsum : (cats xs).length ≤ 140737488351232) (h : OutAt w o s) (hs : s.l.length ≤ 140737488351232) :
    Calls Tryz.prog 99 #[.pointer (some ⟨o, 0, none⟩), .slice A n c] w fun e w' => e = .returned (.pointer (some ⟨o, 0, none⟩)) ∧ OutAt w' o (s.raws xs) ∧ w.grownBy w' (some o) := by
  subst hn
  have key := raws_core (some ⟨o, 0, none⟩) A c xs w hx hlen hsum (fun w' => OutAt w' o (s.lay (cats xs)) ∧ w.grownBy w' (some o))
    (fun w1 hb => (lay_any o s _ w1 (h.below hb) (by rw [Lib.size_eq]; show _ + (cats xs).length ≤ _; omega)).mono fun e w' ⟨he, h1, h2⟩ => ⟨he, by simpa using h1, by_trans (by_below hb (Nat.le_refl _)) h2⟩)
  exact key
theorem out_raw_nil (A : Option Addr) (n c : Nat) (xs : List ByteArray) (w : World) (hn : xs.length = n) (hx : Txts w w.heap.size A xs) (hlen : xs.length ≤ 140737488351232) (hsum : (cats xs).length ≤ 140737488351232) :
    Calls Tryz.prog 99 #[.pointer none, .slice A n c] w fun e w' => e = .returned (.pointer none) ∧ Below w.heap.size w w' := by
  subst hn
  exact raws_core none A c xs w hx hlen hsum (fun w' => Below w.heap.size w w')
    (fun w1 hb => (lay_nil _ w1).mono fun e w' ⟨he, hw⟩ => ⟨he, by subst hw; exact hb⟩)

/-- Short lists, as they stand in new blocks. -/
theorem ints_new (w : World) (xs : List Int) : Ints (w.alloc (.cells (xs.map (Value.int .i64)).toArray 3)) (w.alloc (.cells (xs.map (Value.int .i64)).toArray 3)).heap.size (some ⟨w.heap.size, 0, none⟩) xs := by
  intro _
  refine ⟨w.heap.size, 0, rfl, by simp, fun j x hx => ?_⟩
  have := (Blk.new w 3 (xs.map (Value.int .i64)).toArray).cell (0 + j)
  rw [this]
  simp [hx]
theorem inRange_of {xs : List Int} (h : xs.all (fun x => decide (-9223372036854775808 ≤ x) && decide (x ≤ 9223372036854775807)) = true) : InRange xs := by
  intro x hx
  have := List.all_eq_true.1 h x hx
  simpa using this

theorem inRange_one {n : Int} (h0 : -9223372036854775808 ≤ n) (h1 : n ≤ 9223372036854775807) : InRange [n] := by
  intro x hx
  simp at hx
  subst hx
  exact ⟨h0, h1⟩
/-- A list that stands in the newest block. -/
theorem ints_at (w : World) (cs : Array Value) (xs : List Int) (g : Nat) (hg : w.heap.size = g) (hcs : cs = (xs.map (Value.int .i64)).toArray) :
    Ints (w.alloc (.cells cs 3)) (w.alloc (.cells cs 3)).heap.size (some ⟨g, 0, none⟩) xs := by
  subst hg; subst hcs
  exact ints_new w xs
theorem Wr.ok_zero (l : List UInt8) : (Wr.mk l 0).ok := fun h => (h rfl).elim
end Go.Proofs.YtbaanoomilohhaaGreatDoor
