/-
  Package head's Valid and Done. No statement is proved here.
-/
import Derived.Test.YtbaanoomilohhaaGreatDoorHeadPure
import Derived.Test.YtbaanoomilohhaaGreatDoorOuts
import Derived.Test.YtbaanoomilohhaaGreatDoorRowOps
namespace Go.Proofs.YtbaanoomilohhaaGreatDoor
open Go.RowKit

set_option maxRecDepth 100000 in
set_option maxHeartbeats 1000000 in
theorem rising_any (A : Option Addr) (n c : Nat) (l : List Int) (w : World) (hn : l.length = n) (hx : Ints w w.heap.size A l) (hb : n ≤ 1000000000000) :
    Calls Tryz.prog 96 #[.slice A n c] w fun e w' => e = .returned (.bool (riseB 0 l)) ∧ w = w' := by
  have HX := Lib.hid hx
  have HN := Lib.hid hn
  obtain ⟨R, hR⟩ : ∃ R, R = riseB 0 l := ⟨_, rfl⟩
  rw [← hR]
  have HR := Lib.hid hR
  have hnI : (n : Int) ≤ 1000000000000 := by omega
  clear hx hn hR
  go_enter Tryz.func96, Tryz.ntmps96
  go_wp2_with fail
  go_loopw [3, 8] (fun v i wr => ∃ (j : Nat) (least : Int), j ≤ n ∧ i = .int .i64 j ∧ v = .int .i64 least ∧ 0 ≤ least ∧ least ≤ 2000 ∧ R = riseB least (l.drop j) ∧ w = wr) (fun _ i _ => n - (intOf i).toNat)
  case atStart => exact ⟨0, 0, Nat.zero_le _, rfl, rfl, by omega, by omega, HR.out, rfl⟩
  case round =>
    obtain ⟨j, least, hj, rfl, rfl, l0, l1, hq, rfl⟩ := hrel
    have HQ := Lib.hid hq
    clear hq
    by_cases hlt : j < n
    · have hjl : j < l.length := by rw [HN.out]; exact hlt
      obtain ⟨b, off, rfl, hbB, hc⟩ := HX.out (by omega)
      obtain ⟨x, hx⟩ : ∃ x, x = l[j] := ⟨_, rfl⟩
      have hcx := hc j x (by rw [hx]; exact List.getElem?_eq_getElem hjl)
      have hdrop : l.drop j = x :: l.drop (j + 1) := by rw [List.drop_eq_getElem_cons hjl, hx]
      have hjI : (j : Int) < (n : Int) := by omega
      by_cases h1 : x < least
      · have HF : Hid (R = false) := Lib.hid (by rw [HQ.out, hdrop]; simp [riseB]; omega)
        clear hc hx hdrop hjl
        go_wp2_with fail
        go_ret
        rw [HF.out]
        exact ⟨rfl, rfl⟩
      · have h1' : least ≤ x := by omega
        by_cases h2 : x < 2000
        · have HS : Hid (R = riseB (x + 1) (l.drop (j + 1))) := Lib.hid (by rw [HQ.out, hdrop]; simp [riseB, h1', h2])
          have hlen : j + 1 ≤ n := hlt
          have hx0 : 0 ≤ x := by omega
          clear hc hx hdrop hjl
          go_wp2_with fail
          go_roundw
          case rel => exact ⟨j + 1, x + 1, hlen, by go_num, rfl, by omega, by omega, HS.out, trivial⟩
          case measure => simp [intOf]; omega
        · have h2' : 2000 ≤ x := by omega
          have HF : Hid (R = false) := Lib.hid (by rw [HQ.out, hdrop]; simp [riseB, h2])
          clear hc hx hdrop hjl
          go_wp2_with fail
          go_ret
          rw [HF.out]
          exact ⟨rfl, rfl⟩
    · obtain rfl : j = n := by omega
      have HF : Hid (R = true) := Lib.hid (by rw [HQ.out, List.drop_of_length_le (by rw [HN.out]; exact Nat.le_refl _)]; rfl)
      go_wp2_with fail
      go_ret
      rw [HF.out]
      exact ⟨rfl, rfl⟩

/-- A head as a value. -/
def HD.val (h : HD) (A : Option Addr) (c : Nat) : Value := .agg #[.int .i64 h.seq, .bool h.full, .slice A h.ts.length c]
/-- .. with its targets where they lie. -/
structure HD.At (h : HD) (w : World) (A : Option Addr) (c : Nat) : Prop where
  lie : Ints w w.heap.size A h.ts
  few : h.ts.length ≤ 1000000
theorem HD.At.below {h : HD} {w w' : World} {A : Option Addr} {c : Nat} (ha : h.At w A c) (hb : Below w.heap.size w w') : h.At w' A c := ⟨(ha.lie.below hb).more hb.size, ha.few⟩

set_option maxRecDepth 100000 in
set_option maxHeartbeats 1000000 in
theorem hvalid_any (h : HD) (A : Option Addr) (c : Nat) (w : World) (ha : h.At w A c) :
    Calls Tryz.prog 78 #[h.val A c] w fun e w' => e = .returned (.bool h.validB) ∧ Below w.heap.size w w' := by
  obtain ⟨seq, full, ts⟩ := h
  obtain ⟨hlie, hfew⟩ := ha
  simp only at hlie hfew
  unfold HD.val HD.validB
  simp only
  obtain ⟨n, hn⟩ : ∃ n, n = ts.length := ⟨_, rfl⟩
  rw [← hn]
  have HRI : Hid (∀ W, Below w.heap.size w W → Calls Tryz.prog 96 #[.slice A n c] W fun e w' => e = .returned (.bool (riseB 0 ts)) ∧ W = w') := Lib.hid (fun W hb => rising_any A n c ts W hn.symm ((hlie.below hb).more hb.size) (by omega))
  obtain ⟨R, hR⟩ : ∃ R, R = riseB 0 ts := ⟨_, rfl⟩
  rw [← hR] at HRI ⊢
  have hnI : (n : Int) ≤ 1000000 := by omega
  have HB : Hid (∀ o : Obj, Below w.heap.size w (w.alloc o)) := Lib.hid (fun o => (Below.refl _ _).alloc (Nat.le_refl _) _)
  clear hlie hfew hn hR
  by_cases h0 : seq < 0
  · have e1 : decide (0 ≤ seq ∧ seq ≤ 1099511627776) = false := decide_eq_false (by omega)
    rw [e1, Bool.false_and]
    go_enter Tryz.func78, Tryz.ntmps78
    go_wp2_with fail
    go_ret
    exact ⟨rfl, HB.out _⟩
  · have h0' : 0 ≤ seq := by omega
    by_cases h1 : seq ≤ 1099511627776
    · have e1 : decide (0 ≤ seq ∧ seq ≤ 1099511627776) = true := decide_eq_true (by omega)
      rw [e1, Bool.true_and]
      cases full with
      | false =>
        simp only [Bool.false_eq_true, if_false]
        clear e1
        by_cases hz : n = 0
        · subst hz
          go_enter Tryz.func78, Tryz.ntmps78
          go_wp2_with fail
          go_ret
          exact ⟨rfl, HB.out _⟩
        · have hz1 : ((n : Int) == 0) = false := beq_eq_false_iff_ne.2 (by omega)
          have hz2 : decide (n = 0) = false := decide_eq_false hz
          have hz3 : ¬ (n : Int) = 0 := by omega
          rw [hz2]
          clear hz2
          go_enter Tryz.func78, Tryz.ntmps78
          go_wp2_with fail
          go_ret
          exact ⟨rfl, HB.out _⟩
      | true =>
        simp only [if_true]
        clear e1
        by_cases n1 : 1 ≤ n
        · by_cases n2 : n ≤ 110
          · have e2 : decide (1 ≤ n ∧ n ≤ 110) = true := decide_eq_true ⟨n1, n2⟩
            rw [e2, Bool.true_and]
            have n1I : (1 : Int) ≤ (n : Int) := by omega
            have n2I : (n : Int) ≤ 110 := by omega
            clear e2
            go_enter Tryz.func78, Tryz.ntmps78
            go_wp2_with fail
            refine (HRI.out _ (HB.out _)).mono ?_
            rintro e w1 ⟨rfl, rfl⟩
            go_wp2_with fail
            go_ret
            exact ⟨rfl, HB.out _⟩
          · have e2 : decide (1 ≤ n ∧ n ≤ 110) = false := decide_eq_false (by omega)
            rw [e2, Bool.false_and]
            have n1I : (1 : Int) ≤ (n : Int) := by omega
            have n2I : (110 : Int) < (n : Int) := by omega
            clear e2
            go_enter Tryz.func78, Tryz.ntmps78
            go_wp2_with fail
            go_ret
            exact ⟨rfl, HB.out _⟩
        · have e2 : decide (1 ≤ n ∧ n ≤ 110) = false := decide_eq_false (by omega)
          rw [e2, Bool.false_and]
          obtain rfl : n = 0 := by omega
          clear e2
          go_enter Tryz.func78, Tryz.ntmps78
          go_wp2_with fail
          go_ret
          exact ⟨rfl, HB.out _⟩
    · have e1 : decide (0 ≤ seq ∧ seq ≤ 1099511627776) = false := decide_eq_false (by omega)
      rw [e1, Bool.false_and]
      have h1' : 1099511627776 < seq := by omega
      clear e1
      go_enter Tryz.func78, Tryz.ntmps78
      go_wp2_with fail
      go_ret
      exact ⟨rfl, HB.out _⟩

theorem head_var {W : World} {g : Nat} {q : Int} {f : Bool} {A : Option Addr} {n c : Nat} (hb : Blk W g 61 #[.int .i64 q, .bool f, .slice A n c]) :
    (loadVar 61 ⟨g, 0, none⟩).run Tryz.prog W = .ok (.agg #[.int .i64 q, .bool f, .slice A n c]) W :=
  run_var_part (off := 0) hb (fun j v h => by rw [Nat.zero_add]; exact h) (fun w => by kernel_rfl) (fun w => by kernel_rfl)

set_option maxRecDepth 100000 in
set_option maxHeartbeats 1000000 in
theorem hdone_any (h : HD) (A : Option Addr) (c : Nat) (w : World) :
    Calls Tryz.prog 31 #[h.val A c] w fun e w' => e = .returned ((HD.mk h.seq false []).val none 0) ∧ Below w.heap.size w w' := by
  obtain ⟨seq, full, ts⟩ := h
  unfold HD.val
  simp only [List.length_nil]
  go_enter Tryz.func31, Tryz.ntmps31
  go_wp2_with fail
  have b1 : Blk ((w.alloc (.cells #[.int .i64 seq, .bool full, .slice A ts.length c] 61)).alloc (.cells #[.int .i64 seq, .bool false, .slice none 0 0] 61)) (w.heap.size + 1) 61 #[.int .i64 seq, .bool false, .slice none 0 0] := by
    have := Blk.new (w.alloc (.cells #[.int .i64 seq, .bool full, .slice A ts.length c] 61)) 61 #[.int .i64 seq, .bool false, .slice none 0 0]
    rwa [show (w.alloc (.cells #[.int .i64 seq, .bool full, .slice A ts.length c] 61)).heap.size = w.heap.size + 1 by simp] at this
  refine ret_cell rfl rfl (head_var b1) rfl ?_
  exact ⟨rfl, ((Below.refl _ _).alloc (Nat.le_refl _) _).alloc (by simp) _⟩
end Go.Proofs.YtbaanoomilohhaaGreatDoor
