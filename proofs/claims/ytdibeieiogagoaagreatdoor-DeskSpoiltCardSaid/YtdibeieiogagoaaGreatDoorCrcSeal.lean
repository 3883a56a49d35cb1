/-
  crc.Seal, whatever is handed over.
-/
import Derived.Test.YtdibeieiogagoaaGreatDoorHeadPure
import Derived.Test.YtdibeieiogagoaaGreatDoorOuts
import Derived.Test.YtdibeieiogagoaaGreatDoorRowOps
import Derived.Test.YtdibeieiogagoaaGreatDoorIn
namespace Go.Proofs.YtdibeieiogagoaaGreatDoor
open Go.RowKit

set_option maxRecDepth 100000 in
set_option maxHeartbeats 1000000 in
theorem rising_any (A : Option Addr) (n c : Nat) (l : List Int) (w : World) (hn : l.length = n) (hx : Ints w w.heap.size A l) (hb : n ≤ 1000000000000) :
    Calls Tryz.prog 175 #[.slice A n c] w fun e w' => e = .returned (.bool (riseB 0 l)) ∧ w = w' := by
  have HX := Lib.hid hx
  have HN := Lib.hid hn
  obtain ⟨R, hR⟩ : ∃ R, R = riseB 0 l := ⟨_, rfl⟩
  rw [← hR]
  have HR := Lib.hid hR
  have hnI : (n : Int) ≤ 1000000000000 := by omega
  clear hx hn hR
  go_enter Tryz.func175, Tryz.ntmps175
  go_wp2_with fail
  go_loopw [3, 8] (fun v i wr => ∃ (j : Nat) (least : Int), j ≤ n ∧ i = .int .i64 j ∧ v = .int .i64 least ∧ 0 ≤ least ∧ least ≤ 2000 ∧ R = riseB least (l.drop j) ∧ w = wr) (fun _ i _ => n - (intOf i).toNat)
  case atStart => exact ⟨0, 0, Nat.zero_le _, rfl, rfl, by omega, by omega, HR.out, rfl⟩
  case round =>
    obtain ⟨j, least, hj, rfl, rfl, l0, l1, hq, rfl⟩ := hrel
    have HQ := Lib.hid hq
    clear hq
    by_cases hlt : j < n
    · have hjl : j < l.length := by rw [HN.out]; exact hlt
      obtain ⟨b, off, rfl, hbB, hc⟩ := HX.out (by omega)
      obtain ⟨x, hx⟩ : ∃ x, x = l[j] := ⟨_, rfl⟩
      have hcx := hc j x (by rw [hx]; exact List.getElem?_eq_getElem hjl)
      have hdrop : l.drop j = x :: l.drop (j + 1) := by rw [List.drop_eq_getElem_cons hjl, hx]
      have hjI : (j : Int) < (n : Int) := by omega
      by_cases h1 : x < least
      · have HF : Hid (R = false) := Lib.hid (by rw [HQ.out, hdrop]; simp [riseB]; omega)
        clear hc hx hdrop hjl
        go_wp2_with fail
        go_ret
        rw [HF.out]
        exact ⟨rfl, rfl⟩
      · have h1' : least ≤ x := by omega
        by_cases h2 : x < 2000
        · have HS : Hid (R = riseB (x + 1) (l.drop (j + 1))) := Lib.hid (by rw [HQ.out, hdrop]; simp [riseB, h1', h2])
          have hlen : j + 1 ≤ n := hlt
          have hx0 : 0 ≤ x := by omega
          clear hc hx hdrop hjl
          go_wp2_with fail
          go_roundw
          case rel => exact ⟨j + 1, x + 1, hlen, by go_num, rfl, by omega, by omega, HS.out, trivial⟩
          case measure => simp [intOf]; omega
        · have h2' : 2000 ≤ x := by omega
          have HF : Hid (R = false) := Lib.hid (by rw [HQ.out, hdrop]; simp [riseB, h2])
          clear hc hx hdrop hjl
          go_wp2_with fail
          go_ret
          rw [HF.out]
          exact ⟨rfl, rfl⟩
    · obtain rfl : j = n := by omega
      have HF : Hid (R = true) := Lib.hid (by rw [HQ.out, List.drop_of_length_le (by rw [HN.out]; exact Nat.le_refl _)]; rfl)
      go_wp2_with fail
      go_ret
      rw [HF.out]
      exact ⟨rfl, rfl⟩

/-- A head as a value. -/
def HD.val (h : HD) (A : Option Addr) (c : Nat) : Value := .agg #[.int .i64 h.seq, .bool h.full, .slice A h.ts.length c]
/-- .. with its targets where they lie. -/
structure HD.At (h : HD) (w : World) (A : Option Addr) (c : Nat) : Prop where
  lie : Ints w w.heap.size A h.ts
  few : h.ts.length ≤ 1000000
theorem HD.At.below {h : HD} {w w' : World} {A : Option Addr} {c : Nat} (ha : h.At w A c) (hb : Below w.heap.size w w') : h.At w' A c := ⟨(ha.lie.below hb).more hb.size, ha.few⟩

set_option maxRecDepth 100000 in
set_option maxHeartbeats 1000000 in
theorem hvalid_any (h : HD) (A : Option Addr) (c : Nat) (w : World) (ha : h.At w A c) :
    Calls Tryz.prog 156 #[h.val A c] w fun e w' => e = .returned (.bool h.validB) ∧ Below w.heap.size w w' := by
  obtain ⟨seq, full, ts⟩ := h
  obtain ⟨hlie, hfew⟩ := ha
  simp only at hlie hfew
  unfold HD.val HD.validB
  simp only
  obtain ⟨n, hn⟩ : ∃ n, n = ts.length := ⟨_, rfl⟩
  rw [← hn]
  have HRI : Hid (∀ W, Below w.heap.size w W → Calls Tryz.prog 175 #[.slice A n c] W fun e w' => e = .returned (.bool (riseB 0 ts)) ∧ W = w') := Lib.hid (fun W hb => rising_any A n c ts W hn.symm ((hlie.below hb).more hb.size) (by omega))
  obtain ⟨R, hR⟩ : ∃ R, R = riseB 0 ts := ⟨_, rfl⟩
  rw [← hR] at HRI ⊢
  have hnI : (n : Int) ≤ 1000000 := by omega
  have HB : Hid (∀ o : Obj, Below w.heap.size w (w.alloc o)) := Lib.hid (fun o => (Below.refl _ _).alloc (Nat.le_refl _) _)
  clear hlie hfew hn hR
  by_cases h0 : seq < 0
  · have e1 : decide (0 ≤ seq ∧ seq ≤ 1099511627776) = false := decide_eq_false (by omega)
    rw [e1, Bool.false_and]
    go_enter Tryz.func156, Tryz.ntmps156
    go_wp2_with fail
    go_ret
    exact ⟨rfl, HB.out _⟩
  · have h0' : 0 ≤ seq := by omega
    by_cases h1 : seq ≤ 1099511627776
    · have e1 : decide (0 ≤ seq ∧ seq ≤ 1099511627776) = true := decide_eq_true (by omega)
      rw [e1, Bool.true_and]
      cases full with
      | false =>
        simp only [Bool.false_eq_true, if_false]
        clear e1
        by_cases hz : n = 0
        · subst hz
          go_enter Tryz.func156, Tryz.ntmps156
          go_wp2_with fail
          go_ret
          exact ⟨rfl, HB.out _⟩
        · have hz1 : ((n : Int) == 0) = false := beq_eq_false_iff_ne.2 (by omega)
          have hz2 : decide (n = 0) = false := decide_eq_false hz
          have hz3 : ¬ (n : Int) = 0 := by omega
          rw [hz2]
          clear hz2
          go_enter Tryz.func156, Tryz.ntmps156
          go_wp2_with fail
          go_ret
          exact ⟨rfl, HB.out _⟩
      | true =>
        simp only [if_true]
        clear e1
        by_cases n1 : 1 ≤ n
        · by_cases n2 : n ≤ 110
          · have e2 : decide (1 ≤ n ∧ n ≤ 110) = true := decide_eq_true ⟨n1, n2⟩
            rw [e2, Bool.true_and]
            have n1I : (1 : Int) ≤ (n : Int) := by omega
            have n2I : (n : Int) ≤ 110 := by omega
            clear e2
            go_enter Tryz.func156, Tryz.ntmps156
            go_wp2_with fail
            refine (HRI.out _ (HB.out _)).mono ?_
            rintro e w1 ⟨rfl, rfl⟩
            go_wp2_with fail
            go_ret
            exact ⟨rfl, HB.out _⟩
          · have e2 : decide (1 ≤ n ∧ n ≤ 110) = false := decide_eq_false (by omega)
            rw [e2, Bool.false_and]
            have n1I : (1 : Int) ≤ (n : Int) := by omega
            have n2I : (110 : Int) < (n : Int) := by omega
            clear e2
            go_enter Tryz.func156, Tryz.ntmps156
            go_wp2_with fail
            go_ret
            exact ⟨rfl, HB.out _⟩
        · have e2 : decide (1 ≤ n ∧ n ≤ 110) = false := decide_eq_false (by omega)
          rw [e2, Bool.false_and]
          obtain rfl : n = 0 := by omega
          clear e2
          go_enter Tryz.func156, Tryz.ntmps156
          go_wp2_with fail
          go_ret
          exact ⟨rfl, HB.out _⟩
    · have e1 : decide (0 ≤ seq ∧ seq ≤ 1099511627776) = false := decide_eq_false (by omega)
      rw [e1, Bool.false_and]
      have h1' : 1099511627776 < seq := by omega
      clear e1
      go_enter Tryz.func156, Tryz.ntmps156
      go_wp2_with fail
      go_ret
      exact ⟨rfl, HB.out _⟩

theorem head_var {W : World} {g : Nat} {q : Int} {f : Bool} {A : Option Addr} {n c : Nat} (hb : Blk W g 104 #[.int .i64 q, .bool f, .slice A n c]) :
    (loadVar 104 ⟨g, 0, none⟩).run Tryz.prog W = .ok (.agg #[.int .i64 q, .bool f, .slice A n c]) W :=
  run_var_part (off := 0) hb (fun j v h => by rw [Nat.zero_add]; exact h) (fun w => by kernel_rfl) (fun w => by kernel_rfl)

set_option maxRecDepth 100000 in
set_option maxHeartbeats 1000000 in
theorem hdone_any (h : HD) (A : Option Addr) (c : Nat) (w : World) :
    Calls Tryz.prog 101 #[h.val A c] w fun e w' => e = .returned ((HD.mk h.seq false []).val none 0) ∧ Below w.heap.size w w' := by
  obtain ⟨seq, full, ts⟩ := h
  unfold HD.val
  simp only [List.length_nil]
  go_enter Tryz.func101, Tryz.ntmps101
  go_wp2_with fail
  have b1 : Blk ((w.alloc (.cells #[.int .i64 seq, .bool full, .slice A ts.length c] 104)).alloc (.cells #[.int .i64 seq, .bool false, .slice none 0 0] 104)) (w.heap.size + 1) 104 #[.int .i64 seq, .bool false, .slice none 0 0] := by
    have := Blk.new (w.alloc (.cells #[.int .i64 seq, .bool full, .slice A ts.length c] 104)) 104 #[.int .i64 seq, .bool false, .slice none 0 0]
    rwa [show (w.alloc (.cells #[.int .i64 seq, .bool full, .slice A ts.length c] 104)).heap.size = w.heap.size + 1 by simp] at this
  refine ret_cell rfl rfl (head_var b1) rfl ?_
  exact ⟨rfl, ((Below.refl _ _).alloc (Nat.le_refl _) _).alloc (by simp) _⟩
end Go.Proofs.YtdibeieiogagoaaGreatDoor

namespace Go.Proofs.YtdibeieiogagoaaGreatDoor
open Go.RowKit

theorem ret_u32 {a b : Int} (h : a = b) : Ending.returned (.int .u32 a) = .returned (.int .u32 b) := by rw [h]
theorem odd_bit (x : Nat) (h : x < 4294967296) : bits .and .u32 (x : Int) 1 = ((x % 2 : Nat) : Int) := by
  show bits .and .u32 (x : Int) ((1 : Nat) : Int) = _
  rw [u32_and_nat x 1 h (by omega), Nat.and_one_is_mod]
theorem half_cast (x : Nat) : (x : Int) / 2 = ((x / 2 : Nat) : Int) := by omega
theorem poly_cast (x : Nat) (h : x < 4294967296) : bits .xor .u32 (((x / 2 : Nat) : Int)) 3988292384 = (((x / 2) ^^^ 3988292384 : Nat) : Int) := u32_xor_nat (x / 2) 3988292384 (by omega) (by omega)
theorem shift1_odd {x : Nat} (h : x % 2 = 1) : shift1 x = (x / 2) ^^^ 3988292384 := by unfold shift1; rw [if_pos h]
theorem shift1_even {x : Nat} (h : ¬ x % 2 = 1) : shift1 x = x / 2 := by unfold shift1; rw [if_neg h]

set_option maxHeartbeats 400000 in
theorem step_any (x : Nat) (w : World) (hx : x < 4294967296) :
    Calls Tryz.prog 159 #[.int .u32 x] w fun e w' => e = .returned (.int .u32 (shifts 8 x)) ∧ w = w' := by
  go_enter Tryz.func159, Tryz.ntmps159
  go_wp2
  go_loop [0, 4] (fun v i => ∃ j : Nat, j ≤ 8 ∧ i = .int .i64 j ∧ v = .int .u32 (shifts j x)) (fun _ i => 8 - (intOf i).toNat)
  case atStart => exact ⟨0, Nat.zero_le _, rfl, rfl⟩
  case round =>
    obtain ⟨j, hj, rfl, rfl⟩ := hrel
    by_cases hlt : j < 8
    · have hy := shifts_lt j hx
      have hs : shifts (j + 1) x = shift1 (shifts j x) := rfl
      have HS := Lib.hid hs
      clear hs
      generalize shifts j x = y at *
      by_cases ho : y % 2 = 1
      · have e1 : (bits .and .u32 (y : Int) 1 != 0) = true := by rw [odd_bit y hy, ho]; rfl
        have HO := Lib.hid (shift1_odd ho)
        clear ho
        go_wp2
        go_round
        case rel => exact ⟨j + 1, by omega, by go_num, by rw [HS.out, HO.out, half_cast, poly_cast y hy]⟩
        case measure => simp [intOf]; omega
      · have e1 : (bits .and .u32 (y : Int) 1 != 0) = false := by rw [odd_bit y hy, show y % 2 = 0 by omega]; rfl
        have HO := Lib.hid (shift1_even ho)
        clear ho
        go_wp2
        go_round
        case rel => exact ⟨j + 1, by omega, by go_num, by rw [HS.out, HO.out, half_cast]⟩
        case measure => simp [intOf]; omega
    · obtain rfl : j = 8 := by omega
      go_wp2
      go_ret
      exact ⟨rfl, rfl⟩

theorem byte_cast (x : Nat) (b : UInt8) (h : x < 4294967296) : bits .xor .u32 (x : Int) ((b.toNat : Int) % 4294967296) = ((x ^^^ b.toNat : Nat) : Int) := by
  have hb := b.toNat_lt
  rw [Int.emod_eq_of_lt (by omega) (by omega), u32_xor_nat x b.toNat h (by omega)]
theorem fold_next {x : ByteArray} {k : Nat} (s : Nat) (hk : k < x.size) : crcFold s (x.data.toList.take (k + 1)) = crcByte (crcFold s (x.data.toList.take k)) x[k] := by
  rw [List.take_succ_eq_append_getElem (by rw [Array.length_toList]; exact hk), crcFold_snoc]
  rfl
theorem crcByte_shifts (x : Nat) (b : UInt8) : crcByte x b = shifts 8 (x ^^^ b.toNat) := rfl
theorem last_xor (x : Nat) (h : x < 4294967296) : bits .xor .u32 (x : Int) 4294967295 = ((x ^^^ 4294967295 : Nat) : Int) := by
  show bits .xor .u32 (x : Int) ((4294967295 : Nat) : Int) = _
  rw [u32_xor_nat x 4294967295 h (by omega)]
theorem crc_cats (l : List ByteArray) : ((crcFold 4294967295 (cats l) ^^^ 4294967295 : Nat) : Int) = (crc (cats l) : Int) := rfl

set_option maxRecDepth 100000 in
set_option maxHeartbeats 1000000 in
theorem of_any (A : Option Addr) (n c : Nat) (xs : List ByteArray) (w : World) (hn : xs.length = n) (hx : Txts w w.heap.size A xs) (hlen : xs.length ≤ 140737488351232) (hsz : ∀ x ∈ xs, x.size ≤ 140737488351232) :
    Calls Tryz.prog 135 #[.slice A n c] w fun e w' => e = .returned (.int .u32 (crc (cats xs))) ∧ w = w' := by
  have HX := Lib.hid hx
  have HZ := Lib.hid hsz
  rw [hn] at hlen
  have HN := Lib.hid hn
  clear hx hsz hn
  go_enter Tryz.func135, Tryz.ntmps135
  go_wp2
  go_loop [3, 9] (fun v i => ∃ j : Nat, j ≤ n ∧ i = .int .i64 j ∧ v = .int .u32 (crcFold 4294967295 (cats (xs.take j)))) (fun _ i => n - (intOf i).toNat)
  case atStart => exact ⟨0, Nat.zero_le _, rfl, rfl⟩
  case round =>
    obtain ⟨j, hj, rfl, rfl⟩ := hrel
    have hs := crcFold_lt (cats (xs.take j)) (x := 4294967295) (by omega)
    by_cases hlt : j < n
    · have hxl : j < xs.length := by rw [HN.out]; exact hlt
      obtain ⟨b, off, hA, hbB, hc⟩ := HX.out (by omega)
      obtain ⟨x, hx⟩ : ∃ x, x = xs[j] := ⟨_, rfl⟩
      have hxj : xs[j]? = some x := by rw [hx]; exact List.getElem?_eq_getElem hxl
      have hcx : w.cell? ⟨b, off + j, none⟩ = some (.string x) := hc j x hxj
      have hsx := HZ.out x (by rw [hx]; exact List.getElem_mem hxl)
      have E1 := Lib.hid (cats_snoc hxj)
      clear hxj hc hx
      subst hA
      obtain ⟨s, hs0⟩ : ∃ s, s = crcFold 4294967295 (cats (xs.take j)) := ⟨_, rfl⟩
      rw [← hs0] at hs ⊢
      have HS := Lib.hid hs0
      clear hs0
      go_wp2
      go_loop [3, 15] (fun v i => ∃ k : Nat, k ≤ x.size ∧ i = .int .i64 k ∧ v = .int .u32 (crcFold s (x.data.toList.take k))) (fun _ i => x.size - (intOf i).toNat)
      case atStart => exact ⟨0, Nat.zero_le _, rfl, rfl⟩
      case round =>
        obtain ⟨k, hk, rfl, rfl⟩ := hrel
        have ht := crcFold_lt (x.data.toList.take k) hs
        by_cases hkx : k < x.size
        · have hf := fold_next s hkx
          obtain ⟨t, ht0⟩ : ∃ t, t = crcFold s (x.data.toList.take k) := ⟨_, rfl⟩
          rw [← ht0] at ht hf ⊢
          have HF := Lib.hid hf
          have HB := Lib.hid (byte_cast t x[k] ht)
          have hl := byte_xor_lt x[k] ht
          clear ht0 hf
          go_wp2_with fail
          rw [HB.out]
          refine (step_any _ _ hl).mono ?_
          rintro e w1 ⟨rfl, rfl⟩
          go_wp2_with fail
          go_round
          case rel => exact ⟨k + 1, by omega, by go_num, by rw [HF.out, crcByte_shifts]⟩
          case measure => simp [intOf]; omega
        · have hk2 : x.data.toList.take k = x.data.toList := List.take_of_length_le (by rw [Array.length_toList]; show x.size ≤ k; omega)
          rw [hk2]
          clear hk2
          go_wp2
          go_round
          case rel => exact ⟨j + 1, by omega, by go_num, by rw [E1.out, crcFold_append, HS.out]⟩
          case measure => simp [intOf]; omega
    · obtain rfl : j = n := by omega
      have htk : xs.take j = xs := List.take_of_length_le (by rw [HN.out]; exact Nat.le_refl _)
      rw [htk] at hs ⊢
      have HL := Lib.hid (last_xor _ hs)
      clear htk
      go_wp2
      go_ret
      exact ⟨ret_u32 (by rw [HL.out, crc_cats]), rfl⟩

/-- Is there room for all bytes? -/
def roomB (n : Int) (l : List UInt8) : Bool := decide ((l.length : Int) ≤ n)

set_option maxHeartbeats 400000 in
theorem fit_any (n : Int) (A : Option Addr) (m c : Nat) (xs : List ByteArray) (w : World) (hm : xs.length = m) (hx : Txts w w.heap.size A xs) (hlen : xs.length ≤ 140737488351232) (hsz : ∀ x ∈ xs, x.size ≤ 140737488351232) (h0 : 0 ≤ n) (h1 : n ≤ 65536) :
    Calls Tryz.prog 132 #[.int .i64 n, .slice A m c] w fun e w' => e = .returned (.bool (roomB n (cats xs))) ∧ w = w' := by
  have HX := Lib.hid hx
  have HZ := Lib.hid hsz
  rw [hm] at hlen
  have HM := Lib.hid hm
  clear hx hsz hm
  go_enter Tryz.func132, Tryz.ntmps132
  go_wp2
  go_loop [0, 9] (fun v i => ∃ (j r : Nat), j ≤ m ∧ i = .int .i64 j ∧ v = .int .i64 r ∧ r + (cats (xs.take j)).length = n.toNat) (fun _ i => m - (intOf i).toNat)
  case atStart => exact ⟨0, n.toNat, Nat.zero_le _, rfl, by rw [Int.toNat_of_nonneg h0], by simp [cats]⟩
  case round =>
    obtain ⟨j, r, hj, rfl, rfl, hr⟩ := hrel
    have hrb : r ≤ 65536 := by omega
    have HR := Lib.hid hr
    clear hr
    by_cases hlt : j < m
    · have hxl : j < xs.length := by rw [HM.out]; exact hlt
      obtain ⟨b, off, hA, hbB, hc⟩ := HX.out (by omega)
      obtain ⟨x, hx⟩ : ∃ x, x = xs[j] := ⟨_, rfl⟩
      have hxj : xs[j]? = some x := by rw [hx]; exact List.getElem?_eq_getElem hxl
      have hcx : w.cell? ⟨b, off + j, none⟩ = some (.string x) := hc j x hxj
      have hsx := HZ.out x (by rw [hx]; exact List.getElem_mem hxl)
      have E1 := Lib.hid (cats_snoc hxj)
      have E2 := Lib.hid (cats_len hxj)
      clear hxj hc hx
      subst hA
      by_cases hbig : r < x.size
      · have hno : roomB n (cats xs) = false := decide_eq_false (by have := E2.out; have := HR.out; omega)
        have HNO := Lib.hid hno
        clear hno
        go_wp2
        go_ret
        rw [HNO.out]
        exact ⟨rfl, rfl⟩
      · have hsm : x.size ≤ r := by omega
        clear hbig
        go_wp2
        go_round
        case rel => exact ⟨j + 1, r - x.size, by omega, by go_num, by rw [Int.ofNat_sub hsm], by rw [E1.out, List.length_append, ← Lib.size_eq]; have := HR.out; omega⟩
        case measure => simp [intOf]; omega
    · obtain rfl : j = m := by omega
      have htk : xs.take j = xs := List.take_of_length_le (by rw [HM.out]; exact Nat.le_refl _)
      have hyes : roomB n (cats xs) = true := decide_eq_true (by have := HR.out; rw [htk] at this; omega)
      have HYES := Lib.hid hyes
      clear htk hyes
      go_wp2
      go_ret
      rw [HYES.out]
      exact ⟨rfl, rfl⟩
end Go.Proofs.YtdibeieiogagoaaGreatDoor

namespace Go.Proofs.YtdibeieiogagoaaGreatDoor
open Go.RowKit

/-- What Seal answers, as values. -/
def sealV (n : Int) (l : List UInt8) : Value := .tuple #[.string ⟨(sealB n l).1.toArray⟩, .int .i64 (sealB n l).2]
theorem raws_new (xs : List ByteArray) : (Wr.mk [] 0).raws xs = ⟨cats xs, 0⟩ := by unfold Wr.raws Wr.lay; rw [if_pos rfl]; rfl
theorem pad_new {n : Int} {l : List UInt8} (h1 : n ≤ 65536) (h : (l.length : Int) ≤ n - 4) : (Wr.mk l 0).pad (n - 4) = ⟨body n l, 0⟩ := by
  unfold Wr.pad
  rw [if_neg (by omega), if_neg (by simp only []; omega)]
  unfold Wr.lay
  rw [if_pos rfl]
  rfl
theorem word_new (l : List UInt8) {k : Nat} (h : k < 4294967296) : (Wr.mk l 0).nums 4 [(k : Int)] = ⟨l ++ lowBytes 4 k, 0⟩ := by
  have hf : allFit 4 [(k : Int)] = true := by
    unfold allFit
    rw [List.all_cons, List.all_nil, Bool.and_true, fits_iff]
    omega
  unfold Wr.nums
  rw [if_pos hf]
  unfold Wr.lay
  rw [if_pos rfl]
  have e : allBytes 4 [(k : Int)] = lowBytes 4 k := by unfold allBytes; rw [List.flatMap_cons, List.flatMap_nil, List.append_nil]; rfl
  rw [e]
theorem roomB_yes {n : Int} {l : List UInt8} (h : (l.length : Int) ≤ n) : roomB n l = true := decide_eq_true h
theorem roomB_no {n : Int} {l : List UInt8} (h : ¬ (l.length : Int) ≤ n) : roomB n l = false := decide_eq_false h

set_option maxRecDepth 100000 in
set_option maxHeartbeats 1000000 in
theorem seal_arg (n : Int) (A : Option Addr) (m c : Nat) (l : List UInt8) (w : World) (h : n < 4 ∨ 65536 < n) :
    Calls Tryz.prog 107 #[.int .i64 n, .slice A m c] w fun e w' => e = .returned (sealV n l) ∧ w = w' := by
  have E : sealV n l = .tuple #[.string .empty, .int .i64 1] := by unfold sealV; rw [sealB_arg h]; rfl
  rw [E]
  clear E
  by_cases h1 : n < 4
  · go_enter Tryz.func107, Tryz.ntmps107
    go_wp2_with fail
    go_ret2
    exact ⟨rfl, rfl⟩
  · have h2 : 65536 < n := by omega
    clear h
    go_enter Tryz.func107, Tryz.ntmps107
    go_wp2_with fail
    go_ret2
    exact ⟨rfl, rfl⟩

set_option maxRecDepth 100000 in
set_option maxHeartbeats 1000000 in
theorem seal_in (n : Int) (A : Option Addr) (m c : Nat) (xs : List ByteArray) (w : World) (hm : xs.length = m) (hx : Txts w w.heap.size A xs) (hf : TextsFit xs) (h0 : 4 ≤ n) (h1 : n ≤ 65536) :
    Calls Tryz.prog 107 #[.int .i64 n, .slice A m c] w fun e w' => e = .returned (sealV n (cats xs)) ∧ Below w.heap.size w w' := by
  have hl : xs.length ≤ 140737488351232 := by have := hf.1; omega
  have hz : ∀ x ∈ xs, x.size ≤ 140737488351232 := fun x hx => by have := hf.2 x hx; omega
  have hs : (cats xs).length ≤ 140737488351232 := by
    have := cats_bound xs 100000 hf.2
    have := Nat.mul_le_mul_right 100000 hf.1
    omega
  have HFit := Lib.hid (fit_any (n - 4) A m c xs w hm hx hl hz (by omega) (by omega))
  have HX := Lib.hid hx
  have HM := Lib.hid hm
  have HS := Lib.hid hs
  have HL := Lib.hid hl
  clear hx hf hm hz hs hl
  by_cases hbig : (↑(cats xs).length : Int) ≤ n - 4
  · have E : sealV n (cats xs) = .tuple #[.string ⟨(body n (cats xs) ++ lowBytes 4 (crc (body n (cats xs)))).toArray⟩, .int .i64 0] := by unfold sealV; rw [sealB_ok h0 h1 hbig]
    rw [E]
    have HR := Lib.hid (roomB_yes hbig)
    have hbl := body_length hbig
    have HP := Lib.hid (pad_new h1 hbig)
    obtain ⟨B, hB⟩ : ∃ B, B = body n (cats xs) := ⟨_, rfl⟩
    rw [← hB] at hbl ⊢
    have hbl2 : B.length ≤ 65532 := by omega
    have HB := Lib.hid hB
    clear E hB hbl hbig
    go_enter Tryz.func107, Tryz.ntmps107
    go_wp2_with fail
    refine HFit.out.mono ?_
    rintro e w1 ⟨rfl, rfl⟩
    rw [HR.out]
    go_wp2_with fail
    with_reducible refine (out_raw w.heap.size ⟨[], 0⟩ A m c xs _ HM.out ?_ HL.out HS.out ?_ (by simp)).mono ?_
    · exact (HX.out.below ((Below.refl _ _).alloc (Nat.le_refl _) _)).more (by simp)
    · exact OutAt.new w
    rintro e w1 ⟨rfl, h2, hg2⟩
    have hb2 : Below w.heap.size w w1 := below_by_new ((Below.refl _ w).alloc (Nat.le_refl _) _) hg2 (Nat.le_refl _)
    rw [raws_new] at h2
    clear hg2
    go_wp2_with fail
    with_reducible refine (pad_any w.heap.size ⟨cats xs, 0⟩ (n - 4) _ h2 HS.out).mono ?_
    rintro e w2 ⟨rfl, h3, hg3⟩
    have hb3 : Below w.heap.size w w2 := below_by_new hb2 hg3 (Nat.le_refl _)
    rw [HP.out, ← HB.out] at h3
    clear hg3 hb2 h2
    go_wp2_with fail
    with_reducible refine (fin_any w.heap.size ⟨B, 0⟩ _ h3 (Wr.ok_zero _) (by simp only []; omega)).mono ?_
    rintro e w3 ⟨rfl, h4, hb4⟩
    have hb5 : Below w.heap.size w w3 := hb3.trans (hb4.mono hb3.size)
    clear hb4 hb3 h3
    go_wp2_with fail
    with_reducible refine (of_any (some ⟨w3.heap.size, 0, none⟩) 1 1 [⟨B.toArray⟩] _ rfl ?_ (by simp) ?_).mono ?_
    · exact txts_at w3 _ [⟨B.toArray⟩] _ rfl rfl
    · intro x hx
      rw [List.mem_singleton.1 hx, Lib.size_eq]
      show B.length ≤ _
      omega
    rintro e w4 ⟨rfl, rfl⟩
    have e1 : crc (cats [⟨B.toArray⟩]) = crc B := by rw [cats_one]
    have hcl := crc_lt B
    rw [e1]
    have HW := Lib.hid (word_new B hcl)
    obtain ⟨K, hK⟩ : ∃ K, K = crc B := ⟨_, rfl⟩
    rw [← hK] at hcl ⊢
    have HK := Lib.hid hK
    clear e1 hK
    go_wp2_with fail
    with_reducible refine (out_word w.heap.size ⟨B, 0⟩ (some ⟨w3.heap.size + 1, 0, none⟩) 1 1 [(K : Int)] _ rfl ?_ (by simp) ?_ ?_ (by simp only []; omega)).mono ?_
    · exact ints_at _ _ [(K : Int)] _ (by simp) rfl
    · exact inRange_one (by omega) (by omega)
    · exact h4.below (((Below.refl _ w3).alloc (Nat.le_refl _) _).alloc (by simp) _)
    rintro e w5 ⟨rfl, h6, hg6⟩
    have hb6 : Below w.heap.size w w5 := below_by_new ((hb5.alloc hb5.size _).alloc (by have := hb5.size; simp; omega) _) hg6 (Nat.le_refl _)
    rw [HK.out, HW.out] at h6
    clear hg6 h4 hb5
    go_wp2_with fail
    with_reducible refine (fin_any w.heap.size ⟨B ++ lowBytes 4 (crc B), 0⟩ _ h6 (Wr.ok_zero _) (by simp only [List.length_append, lowBytes_length]; omega)).mono ?_
    rintro e w6 ⟨rfl, h7, hb7⟩
    have hb8 : Below w.heap.size w w6 := hb6.trans (hb7.mono hb6.size)
    clear hb7 h7 h6 hb6
    go_wp2_with fail
    go_ret2
    exact ⟨rfl, hb8⟩
  · have E : sealV n (cats xs) = .tuple #[.string .empty, .int .i64 2] := by unfold sealV; rw [sealB_long h0 h1 (by omega)]; rfl
    rw [E]
    have HR := Lib.hid (roomB_no hbig)
    clear E hbig
    go_enter Tryz.func107, Tryz.ntmps107
    go_wp2_with fail
    refine HFit.out.mono ?_
    rintro e w1 ⟨rfl, rfl⟩
    rw [HR.out]
    go_wp2_with fail
    go_ret2
    exact ⟨rfl, Below.refl _ _⟩

theorem seal_any (n : Int) (A : Option Addr) (m c : Nat) (xs : List ByteArray) (w : World) (hm : xs.length = m) (hx : Txts w w.heap.size A xs) (hf : TextsFit xs) :
    Calls Tryz.prog 107 #[.int .i64 n, .slice A m c] w fun e w' => e = .returned (sealV n (cats xs)) ∧ Below w.heap.size w w' := by
  by_cases h : n < 4 ∨ 65536 < n
  · exact (seal_arg n A m c (cats xs) w h).mono fun e w' ⟨he, hw⟩ => ⟨he, hw ▸ Below.refl _ _⟩
  · exact seal_in n A m c xs w hm hx hf (by omega) (by omega)
end Go.Proofs.YtdibeieiogagoaaGreatDoor
