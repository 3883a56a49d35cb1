/-
  BitsShort, walked within its bounds: what is cut off anywhere is too short.
-/
import Derived.Test.YtdfickppfihiiaaDoorShortOut
namespace Go.Proofs.YtdfickppfihiiaaDoor
open Go.RowKit

set_option maxRecDepth 100000 in
set_option maxHeartbeats 1500000 in
theorem short_in (xa xb : Int) (s : ByteArray) (cut : Int) (w : World) (hs : s.size ≤ 500) (ha0 : 0 ≤ xa) (ha : xa ≤ 255) (hb0 : 0 ≤ xb) (hbb : xb ≤ 9223372036854775807) (hc0 : 0 ≤ cut) :
    Calls Tryd.prog 7 #[.int .i64 xa, .int .i64 xb, .string s, .int .i64 cut] w fun e w' => e = .returned (.bool true) ∧ Below w.heap.size w w' := by
  obtain ⟨a, ea⟩ := Int.eq_ofNat_of_zero_le ha0
  obtain ⟨b, eb⟩ := Int.eq_ofNat_of_zero_le hb0
  have la : (lowBytes 1 a).length = 1 := lowBytes_length _ _
  have lb : (lowBytes 8 b).length = 8 := lowBytes_length _ _
  have ls := textBytes_len s
  obtain ⟨l1, e1⟩ : ∃ r, r = [] ++ allBytes 1 [(a : Int)] := ⟨_, rfl⟩
  obtain ⟨l2, e2⟩ : ∃ r, r = l1 ++ textsBytes [s] := ⟨_, rfl⟩
  obtain ⟨L, e3⟩ : ∃ r, r = l2 ++ allBytes 8 [(b : Int)] := ⟨_, rfl⟩
  have one : textsBytes [s] = textBytes s := by simp [textsBytes]
  have n1 : l1.length = 1 := by rw [e1, all_one, List.length_append, la]; rfl
  have n2 : l2.length = 3 + s.size := by rw [e2, one, List.length_append, n1, ls]; omega
  have n3 : L.length = 11 + s.size := by rw [e3, all_one, List.length_append, n2, lb]; omega
  have eL : L = lowBytes 1 a ++ textBytes s ++ lowBytes 8 b := by rw [e3, e2, e1, one, all_one, all_one]; rfl
  have W1 := Lib.hid (show (Wr.mk [] 0).nums 1 [xa] = ⟨l1, 0⟩ by rw [e1, ea]; exact nums_ok [] 1 [(a : Int)] (fit_one (by omega)))
  have W2 := Lib.hid (show (Wr.mk l1 0).texts [s] = ⟨l2, 0⟩ by rw [e2]; exact texts_ok l1 [s] (by simp [allShort]; omega))
  have W3 := Lib.hid (show (Wr.mk l2 0).nums 8 [xb] = ⟨L, 0⟩ by rw [e3, eb]; exact nums_ok l2 8 _ (fit_one (by omega)))
  have len1 := Lib.hid (show l1.length ≤ 140737488351232 by omega)
  have len2 := Lib.hid (show l2.length ≤ 140737488351232 by omega)
  have len3 := Lib.hid (show L.length ≤ 140737488351232 by omega)
  have st1 := Lib.hid (show (textsBytes [s]).length ≤ 140737488351232 by rw [one, ls]; omega)
  have RA := Lib.hid (show InRange [xa] from inRange_one (by omega) (by omega))
  have RB := Lib.hid (show InRange [xb] from inRange_one (by omega) hbb)
  have LL := Lib.hid (show (L.length : Int) = 11 + (s.size : Int) by rw [n3]; omega)
  -- where it is cut
  obtain ⟨xk, ek⟩ : ∃ xk : Int, xk = cut % (11 + (s.size : Int) + 1) := ⟨_, rfl⟩
  have hk0 : 0 ≤ xk := by rw [ek]; exact Int.emod_nonneg _ (by omega)
  have hk1 : xk < 11 + (s.size : Int) + 1 := by rw [ek]; exact Int.emod_lt_of_pos _ (by omega)
  obtain ⟨k, ekk⟩ := Int.eq_ofNat_of_zero_le hk0
  obtain ⟨X, hX⟩ : ∃ X, (ByteArray.mk L.toArray).extract 0 xk.toNat = X := ⟨_, rfl⟩
  have K1 := Lib.hid (show X = bs (L.take k) by
    rw [← hX, ekk, Int.toNat_natCast]
    have h := bs_extract L 0 k
    rw [List.drop_zero, Nat.sub_zero] at h
    exact h)
  have HX := Lib.hid hX
  have K3 := Lib.hid ek.symm
  have q0 := Lib.hid (show X.size ≤ 140737488351232 by rw [K1.out, bs_size, List.length_take]; omega)
  have EK := Lib.hid ekk
  have EA := Lib.hid ea
  have HW := Lib.hid (show k = 11 + s.size → (Rd.mk (bs (L.take k)) 0).num 1 = (xa, (⟨bs (textBytes s ++ lowBytes 8 b), 0⟩ : Rd)) ∧ (Rd.mk (bs (textBytes s ++ lowBytes 8 b)) 0).text = (s, (⟨bs (lowBytes 8 b), 0⟩ : Rd)) ∧ (Rd.mk (bs (lowBytes 8 b)) 0).num 8 = (xb, (⟨bs [], 0⟩ : Rd)) ∧
      (bs (textBytes s ++ lowBytes 8 b)).size ≤ 1000 ∧ (bs (lowBytes 8 b)).size ≤ 1000 by
    intro hk
    refine ⟨?_, text_bs s _ (by omega), ?_, by simp only [bs_size, List.length_append, ls, lb]; omega, by simp only [bs_size, lb]; omega⟩
    · rw [List.take_of_length_le (by omega), eL, List.append_assoc, ea]
      exact num_bs 1 a _ (by omega) (by omega)
    · have := num_bs 8 b [] (by omega) (by omega)
      rw [List.append_nil] at this
      rw [eb]
      exact this)
  have HS := Lib.hid (show k < 11 + s.size → _ from fun hk => short_reads a s b k (by omega) hs hk)
  rw [← eL] at HS
  clear la lb ls e1 e2 e3 one n1 n2 n3 eL ea eb ek ekk hbb hX
  have hk2 : xk ≤ 11 + (s.size : Int) := by omega
  clear hk1
  go_enter Tryd.func7, Tryd.ntmps7
  go_wp2_with fail; trace "1"
  refine (alive_any _).mono ?_
  rintro e w1 ⟨rfl, hb1⟩
  go_wp2_with fail; trace "2"
  have hg0 : w.heap.size ≤ w1.heap.size := hb1.size
  with_reducible refine (out_byte w1.heap.size ⟨[], 0⟩ (some ⟨w1.heap.size + 1, 0, none⟩) 1 1 [xa] _ rfl ?_ (by simp) RA.out ?_ (by simp)).mono ?_
  · exact ints_at _ _ _ _ (by simp) rfl
  · exact (OutAt.new w1).below ((Below.refl _ _).alloc (Nat.le_refl _) _)
  rintro e w2 ⟨rfl, h2, hg2⟩
  rw [W1.out] at h2
  have hb2 : Below w.heap.size w w2 := below_by_new ((hb1.alloc hb1.size _).alloc (by have := hb1.size; simp; omega) _) hg2 hg0
  have hlt2 := h2.lt
  clear hg2
  go_wp2_with fail; trace "3"
  with_reducible refine (out_text w1.heap.size ⟨l1, 0⟩ (some ⟨w2.heap.size, 0, none⟩) 1 1 [s] _ rfl ?_ (by simp) st1.out ?_ len1.out).mono ?_
  · exact txts_at _ _ _ _ rfl rfl
  · exact h2.below ((Below.refl _ _).alloc (Nat.le_refl _) _)
  rintro e w3 ⟨rfl, h3, hg3⟩
  rw [W2.out] at h3
  have hb3 : Below w.heap.size w w3 := below_by_new (hb2.alloc hb2.size _) hg3 hg0
  have hlt3 := h3.lt
  clear hg3 h2 hb2 hlt2
  go_wp2_with fail; trace "4"
  with_reducible refine (out_long w1.heap.size ⟨l2, 0⟩ (some ⟨w3.heap.size, 0, none⟩) 1 1 [xb] _ rfl ?_ (by simp) RB.out ?_ len2.out).mono ?_
  · exact ints_at _ _ _ _ rfl rfl
  · exact h3.below ((Below.refl _ _).alloc (Nat.le_refl _) _)
  rintro e w4 ⟨rfl, h4, hg4⟩
  rw [W3.out] at h4
  have hb4 : Below w.heap.size w w4 := below_by_new (hb3.alloc hb3.size _) hg4 hg0
  have hlt4 := h4.lt
  clear hg4 h3 hb3 hlt3
  go_wp2_with fail; trace "5"
  with_reducible refine (fin_any w1.heap.size ⟨L, 0⟩ _ h4 (Wr.ok_zero _) len3.out).mono ?_
  rintro e w5 ⟨rfl, _, hc5⟩
  have hb5 : Below w.heap.size w w5 := hb4.trans (hc5.mono hb4.size)
  clear hc5 h4 hb4 hlt4
  have hLL := LL.out
  have hKx := K3.out
  have hXx := HX.out
  go_wp2_with fail; trace "6"
  with_reducible refine (on_any X _ q0.out).mono ?_
  rintro e w6 ⟨g, rfl, hg, h6, hc6⟩
  have hb6 : Below w.heap.size w w6 := hb5.trans (hc6.mono hb5.size)
  have hgw : w.heap.size ≤ g := Nat.le_trans hb5.size hg
  rw [K1.out] at h6
  rw [K3.out]
  clear hc6 hb5 hg hLL hKx hXx
  by_cases hw : 11 + (s.size : Int) ≤ xk
  · obtain ⟨f1, f2, f3, z1, z2⟩ := HW.out (by have := EK.out; omega)
    have q1 : (bs (L.take k)).size ≤ 140737488351232 := by rw [← K1.out]; exact q0.out
    have Q1 := Lib.hid q1
    have F1 := Lib.hid f1
    have F2 := Lib.hid f2
    have F3 := Lib.hid f3
    have Z1 := Lib.hid (show (bs (textBytes s ++ lowBytes 8 b)).size ≤ 140737488351232 by omega)
    have Z2 := Lib.hid (show (bs (lowBytes 8 b)).size ≤ 140737488351232 by omega)
    clear z1 z2 q1 f1 f2 f3
    go_wp2_with fail; trace "7"
    with_reducible refine (in_byte g ⟨bs (L.take k), 0⟩ _ h6 Q1.out).mono ?_
    rintro e w7 ⟨rfl, h7, hg7⟩
    rw [F1.out] at h7 ⊢
    have hb7 : Below w.heap.size w w7 := below_by_new hb6 hg7 hgw
    clear hg7 h6 hb6
    go_wp2_with fail; trace "8"
    with_reducible refine (in_text g _ _ h7 Z1.out).mono ?_
    rintro e w8 ⟨rfl, h8, hg8⟩
    rw [F2.out] at h8 ⊢
    have hb8 : Below w.heap.size w w8 := below_by_new hb7 hg8 hgw
    clear hg8 h7 hb7
    go_wp2_with fail; trace "9"
    with_reducible refine (in_long g _ _ h8 Z2.out).mono ?_
    rintro e w9 ⟨rfl, h9, hg9⟩
    rw [F3.out] at h9 ⊢
    have hb9 : Below w.heap.size w w9 := below_by_new hb8 hg9 hgw
    clear hg9 h8 hb8
    have hq2 : (xk == (L.length : Int)) = true := by rw [LL.out]; exact beq_iff_eq.2 (by omega)
    go_wp2_with fail; trace "10"
    with_reducible refine (in_rest g _ _ h9).mono ?_
    rintro e v ⟨rfl, rfl⟩
    rw [show (Rd.mk (bs []) 0).rest = true from rfl]
    go_wp2_with fail; trace "11"
    with_reducible refine (in_end g _ _ h9).mono ?_
    rintro e w10 ⟨rfl, _, hg10⟩
    rw [show (Rd.mk (bs []) 0).fin = (0, (⟨bs [], 0⟩ : Rd)) from rfl]
    have hb10 : Below w.heap.size w w10 := below_by_new hb9 hg10 hgw
    clear hg10 h9 hb9 hq2
    go_wp2_with fail; trace "12"
    go_ret
    exact ⟨rfl, hb10⟩
  · have hw' : xk < 11 + (s.size : Int) := by omega
    clear hw
    obtain ⟨u, t, r1, r2, f1, f2, f3, z1, z2, hu, ht⟩ := HS.out (by have := EK.out; omega)
    have q1 : (bs (L.take k)).size ≤ 140737488351232 := by rw [← K1.out]; exact q0.out
    have Q1 := Lib.hid q1
    have F1 := Lib.hid f1
    have F2 := Lib.hid f2
    have F3 := Lib.hid f3
    have Z1 := Lib.hid (show r1.b.size ≤ 140737488351232 by omega)
    have Z2 := Lib.hid (show r2.b.size ≤ 140737488351232 by omega)
    have HU := Lib.hid hu
    have HT := Lib.hid ht
    clear z1 z2 q1 hu ht f1 f2 f3
    go_wp2_with fail; trace "13"
    with_reducible refine (in_byte g ⟨bs (L.take k), 0⟩ _ h6 Q1.out).mono ?_
    rintro e w7 ⟨rfl, h7, hg7⟩
    rw [F1.out] at h7 ⊢
    have hb7 : Below w.heap.size w w7 := below_by_new hb6 hg7 hgw
    clear hg7 h6 hb6
    go_wp2_with fail; trace "14"
    with_reducible refine (in_text g _ _ h7 Z1.out).mono ?_
    rintro e w8 ⟨rfl, h8, hg8⟩
    rw [F2.out] at h8 ⊢
    have hb8 : Below w.heap.size w w8 := below_by_new hb7 hg8 hgw
    clear hg8 h7 hb7
    go_wp2_with fail; trace "15"
    with_reducible refine (in_long g _ _ h8 Z2.out).mono ?_
    rintro e w9 ⟨rfl, h9, hg9⟩
    rw [F3.out] at h9 ⊢
    have hb9 : Below w.heap.size w w9 := below_by_new hb8 hg9 hgw
    clear hg9 h8 hb8
    have hq2 : (xk == (L.length : Int)) = false := by rw [LL.out]; exact beq_eq_false_iff_ne.2 (by omega)
    go_wp2_with fail; trace "16"
    with_reducible refine (in_left g _ _ h9 (by simp)).mono ?_
    rintro e v ⟨rfl, rfl⟩
    go_wp2_with fail; trace "17"
    with_reducible refine (in_rest g _ _ h9).mono ?_
    rintro e v ⟨rfl, rfl⟩
    rw [rest_gone 5 (by decide)]
    go_wp2_with fail; trace "18"
    with_reducible refine (in_end g _ _ h9).mono ?_
    rintro e w10 ⟨rfl, h10, hg10⟩
    rw [fin_gone 5 (by decide)] at h10 ⊢
    have hb10 : Below w.heap.size w w10 := below_by_new hb9 hg10 hgw
    clear hg10 h9 hb9 hq2
    go_wp2_with fail; trace "19"
    with_reducible refine (in_end g _ _ h10).mono ?_
    rintro e w11 ⟨rfl, _, hg11⟩
    rw [fin_gone 5 (by decide)]
    have hb11 : Below w.heap.size w w11 := below_by_new hb10 hg11 hgw
    clear hg11 h10 hb10
    by_cases hz : xk ≤ 0
    · go_wp2_with fail; trace "20"
      go_ret
      exact ⟨rfl, hb11⟩
    · have hz' : 0 < xk := by omega
      obtain rfl : u = xa := by
        rcases HU.out with h | h
        · have := EK.out; omega
        · rw [h, EA.out]
      clear hz
      by_cases hy : xk < 3 + (s.size : Int)
      · go_wp2_with fail; trace "21"
        go_ret
        exact ⟨rfl, hb11⟩
      · have hy' : 3 + (s.size : Int) ≤ xk := by omega
        obtain rfl : t = s := by
          rcases HT.out with h | h
          · have := EK.out; omega
          · exact h
        clear hy
        go_wp2_with fail; trace "22"
        go_ret
        exact ⟨rfl, hb11⟩

theorem short_any (a b : Int) (s : ByteArray) (cut : Int) (w : World) (_ha : -9223372036854775808 ≤ a ∧ a ≤ 9223372036854775807) (hb : -9223372036854775808 ≤ b ∧ b ≤ 9223372036854775807) (_hs : s.size ≤ 140737488351232) (_hc : -9223372036854775808 ≤ cut ∧ cut ≤ 9223372036854775807) :
    Calls Tryd.prog 7 #[.int .i64 a, .int .i64 b, .string s, .int .i64 cut] w fun e w' => e = .returned (.bool true) ∧ Below w.heap.size w w' := by
  by_cases h : s.size ≤ 500 ∧ 0 ≤ a ∧ a ≤ 255 ∧ 0 ≤ b ∧ 0 ≤ cut
  · obtain ⟨h1, h2, h3, h4, h5⟩ := h
    exact short_in a b s cut w h1 h2 h3 h4 hb.2 h5
  · exact short_out a b s cut w (by omega)
end Go.Proofs.YtdfickppfihiiaaDoor
