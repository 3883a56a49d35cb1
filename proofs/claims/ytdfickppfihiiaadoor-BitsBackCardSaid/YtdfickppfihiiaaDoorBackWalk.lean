/-
  BitsBack, walked within its bounds: what was laid is read as it was.
-/
import Derived.Test.YtdfickppfihiiaaDoorBackOut
namespace Go.Proofs.YtdfickppfihiiaaDoor
open Go.RowKit

set_option maxRecDepth 100000 in
set_option maxHeartbeats 4000000 in
/-- Within them it is all read back. -/
theorem back_in (xa xb xc xp : Int) (s t : ByteArray) (w : World) (hs : s.size ≤ 1000) (ht : t.size ≤ 1000) (ha0 : 0 ≤ xa) (ha : xa ≤ 255) (hb0 : 0 ≤ xb) (hbb : xb < 4294967296) (hc0 : 0 ≤ xc) (hc : xc ≤ 9223372036854775807) (hp0 : 0 ≤ xp) (hp : xp ≤ 200) :
    Calls Tryd.prog 4 #[.int .i64 xa, .int .i64 xb, .int .i64 xc, .string s, .string t, .int .i64 xp] w fun e w' => e = .returned (.bool true) ∧ Below w.heap.size w w' := by
  obtain ⟨a, ea⟩ := Int.eq_ofNat_of_zero_le ha0
  obtain ⟨b, eb⟩ := Int.eq_ofNat_of_zero_le hb0
  obtain ⟨c, ec⟩ := Int.eq_ofNat_of_zero_le hc0
  obtain ⟨pad, ep⟩ := Int.eq_ofNat_of_zero_le hp0
  have la : (lowBytes 1 a).length = 1 := lowBytes_length _ _
  have lb : (lowBytes 4 b).length = 4 := lowBytes_length _ _
  have lc : (lowBytes 8 c).length = 8 := lowBytes_length _ _
  have ls := textBytes_len s
  have lt := textBytes_len t
  -- what is laid, and what is left of it behind each read
  obtain ⟨z, hz⟩ : ∃ z, z = List.replicate (4100 + pad - (1 + (2 + s.size + (2 + t.size)) + (4 + 4) + 8 + (s.size + t.size))) (0 : UInt8) := ⟨_, rfl⟩
  obtain ⟨r7, hr7⟩ : ∃ r, r = (s.data.toList ++ t.data.toList) ++ z := ⟨_, rfl⟩
  obtain ⟨r6, hr6⟩ : ∃ r, r = lowBytes 8 c ++ r7 := ⟨_, rfl⟩
  obtain ⟨r5, hr5⟩ : ∃ r, r = lowBytes 4 b ++ r6 := ⟨_, rfl⟩
  obtain ⟨r4, hr4⟩ : ∃ r, r = lowBytes 4 b ++ r5 := ⟨_, rfl⟩
  obtain ⟨r3, hr3⟩ : ∃ r, r = textBytes t ++ r4 := ⟨_, rfl⟩
  obtain ⟨r2, hr2⟩ : ∃ r, r = textBytes s ++ r3 := ⟨_, rfl⟩
  obtain ⟨L, hL⟩ : ∃ r, r = lowBytes 1 a ++ r2 := ⟨_, rfl⟩
  have lz : z.length = 4100 + pad - (1 + (2 + s.size + (2 + t.size)) + (4 + 4) + 8 + (s.size + t.size)) := by rw [hz]; simp
  have lL : L.length = 4100 + pad := by
    rw [hL, hr2, hr3, hr4, hr5, hr6, hr7]
    simp only [List.length_append, la, lb, lc, ls, lt, lz, ← Lib.size_eq]
    omega
  -- the writer's steps
  obtain ⟨l1, e1⟩ : ∃ r, r = [] ++ allBytes 1 [(a : Int)] := ⟨_, rfl⟩
  obtain ⟨l2, e2⟩ : ∃ r, r = l1 ++ textsBytes [s, t] := ⟨_, rfl⟩
  obtain ⟨l3, e3⟩ : ∃ r, r = l2 ++ allBytes 4 [(b : Int), (b : Int)] := ⟨_, rfl⟩
  obtain ⟨l4, e4⟩ : ∃ r, r = l3 ++ allBytes 8 [(c : Int)] := ⟨_, rfl⟩
  obtain ⟨l5, e5⟩ : ∃ r, r = l4 ++ cats [s, t] := ⟨_, rfl⟩
  obtain ⟨N, hN⟩ : ∃ N, N = 4100 + pad := ⟨_, rfl⟩
  have n1 : l1.length = 1 := by rw [e1, all_one, List.length_append, la]; rfl
  have n2 : l2.length = 1 + (2 + s.size + (2 + t.size)) := by rw [e2, texts_two, List.length_append, List.length_append, n1, ls, lt]
  have n3 : l3.length = 1 + (2 + s.size + (2 + t.size)) + (4 + 4) := by rw [e3, all_two, List.length_append, List.length_append, n2, lb]
  have n4 : l4.length = 1 + (2 + s.size + (2 + t.size)) + (4 + 4) + 8 := by rw [e4, all_one, List.length_append, n3, lc]
  have n5 : l5.length = 1 + (2 + s.size + (2 + t.size)) + (4 + 4) + 8 + (s.size + t.size) := by rw [e5, cats_two, List.length_append, List.length_append, n4, ← Lib.size_eq, ← Lib.size_eq]
  have W1 := Lib.hid (show (Wr.mk [] 0).nums 1 [xa] = ⟨l1, 0⟩ by rw [e1, ea]; exact nums_ok [] 1 [(a : Int)] (fit_one (by omega)))
  have W2 := Lib.hid (show (Wr.mk l1 0).texts [s, t] = ⟨l2, 0⟩ by rw [e2]; exact texts_ok l1 [s, t] (by simp [allShort]; omega))
  have W3 := Lib.hid (show (Wr.mk l2 0).nums 4 [xb, xb] = ⟨l3, 0⟩ by rw [e3, eb]; exact nums_ok l2 4 _ (fit_two (by omega) (by omega)))
  have W4 := Lib.hid (show (Wr.mk l3 0).nums 8 [xc] = ⟨l4, 0⟩ by rw [e4, ec]; exact nums_ok l3 8 _ (fit_one (by omega)))
  have W5 := Lib.hid (show (Wr.mk l4 0).raws [s, t] = ⟨l5, 0⟩ by rw [e5]; rfl)
  have eL : l5 ++ List.replicate (N - l5.length) (0 : UInt8) = L := by
    rw [n5, hN, ← hz, e5, e4, e3, e2, e1, all_one, all_two, all_one, texts_two, cats_two, hL, hr2, hr3, hr4, hr5, hr6, hr7]
    simp only [List.nil_append, List.append_assoc]
  have W6 := Lib.hid (show (Wr.mk l5 0).pad (4100 + xp) = ⟨L, 0⟩ by rw [← eL, show (4100 + xp : Int) = (N : Int) by omega]; exact pad_ok l5 N (by rw [n5]; omega) (by omega))
  have len1 := Lib.hid (show l1.length ≤ 140737488351232 by omega)
  have len2 := Lib.hid (show l2.length ≤ 140737488351232 by omega)
  have len3 := Lib.hid (show l3.length ≤ 140737488351232 by omega)
  have len4 := Lib.hid (show l4.length ≤ 140737488351232 by omega)
  have len5 := Lib.hid (show l5.length ≤ 140737488351232 by omega)
  have len6 := Lib.hid (show L.length ≤ 140737488351232 by omega)
  have st1 := Lib.hid (show (textsBytes [s, t]).length ≤ 140737488351232 by rw [texts_two]; simp only [List.length_append, ls, lt]; omega)
  have st2 := Lib.hid (show (cats [s, t]).length ≤ 140737488351232 by rw [cats_two]; simp only [List.length_append, ← Lib.size_eq]; omega)
  have LL := Lib.hid (show (L.length : Int) = 4100 + xp by rw [lL]; omega)
  -- the reader's steps
  have R1 := Lib.hid (show (Rd.mk (bs L) 0).num 1 = (xa, (⟨bs r2, 0⟩ : Rd)) by rw [hL, ea]; exact num_bs 1 a r2 (by omega) (by omega))
  have R2 := Lib.hid (show (Rd.mk (bs r2) 0).text = (s, ⟨bs r3, 0⟩) by rw [hr2]; exact text_bs s r3 (by omega))
  have R3 := Lib.hid (show (Rd.mk (bs r3) 0).text = (t, ⟨bs r4, 0⟩) by rw [hr3]; exact text_bs t r4 (by omega))
  have R4 := Lib.hid (show (Rd.mk (bs r4) 0).num 4 = (xb, (⟨bs r5, 0⟩ : Rd)) by rw [hr4, eb]; exact num_bs 4 b r5 (by omega) (by omega))
  have R5 := Lib.hid (show (Rd.mk (bs r5) 0).num 4 = (xb, (⟨bs r6, 0⟩ : Rd)) by rw [hr5, eb]; exact num_bs 4 b r6 (by omega) (by omega))
  have R6 := Lib.hid (show (Rd.mk (bs r6) 0).num 8 = (xc, (⟨bs r7, 0⟩ : Rd)) by rw [hr6, ec]; exact num_bs 8 c r7 (by omega) (by omega))
  have R7 := Lib.hid (show (Rd.mk (bs r7) 0).raw ((s.size : Int) + (t.size : Int)) = (s ++ t, ⟨bs z, 0⟩) by
    have h := raw_bs (s.data.toList ++ t.data.toList) z (s.size + t.size) (by simp only [List.length_append, ← Lib.size_eq])
    rw [← hr7, bs_append] at h
    exact h)
  have R8 := Lib.hid (show (Rd.mk (bs z) 0).rest = true by rw [hz]; exact rest_bs _)
  have R9 := Lib.hid (show (Rd.mk (bs z) 0).fin = (0, ⟨bs z, 0⟩) by rw [hz]; exact fin_bs _)
  have q1 := Lib.hid (show (bs L).size ≤ 140737488351232 by rw [bs_size, lL]; omega)
  have q2 := Lib.hid (show (bs r2).size ≤ 140737488351232 by have : L.length = 1 + r2.length := by rw [hL, List.length_append, la]
                                                             rw [bs_size]; omega)
  have q3 := Lib.hid (show (bs r3).size ≤ 140737488351232 by have : L.length = 1 + (2 + s.size + r3.length) := by rw [hL, hr2, List.length_append, List.length_append, la, ls]
                                                             rw [bs_size]; omega)
  have q4 := Lib.hid (show (bs r4).size ≤ 140737488351232 by have : L.length = 1 + (2 + s.size + (2 + t.size + r4.length)) := by rw [hL, hr2, hr3, List.length_append, List.length_append, List.length_append, la, ls, lt]
                                                             rw [bs_size]; omega)
  have q7' : r7.length = s.size + t.size + z.length := by rw [hr7]; simp only [List.length_append, ← Lib.size_eq]
  have q6' : r6.length = 8 + r7.length := by rw [hr6, List.length_append, lc]
  have q5' : r5.length = 4 + r6.length := by rw [hr5, List.length_append, lb]
  have q5 := Lib.hid (show (bs r5).size ≤ 140737488351232 by rw [bs_size]; omega)
  have q6 := Lib.hid (show (bs r6).size ≤ 140737488351232 by rw [bs_size]; omega)
  have q7 := Lib.hid (show (bs r7).size ≤ 140737488351232 by rw [bs_size]; omega)
  have RA := Lib.hid (show InRange [xa] from inRange_one (by omega) (by omega))
  have RB := Lib.hid (show InRange [xb, xb] from by intro x hx; simp at hx; subst hx; omega)
  have RC := Lib.hid (show InRange [xc] from inRange_one (by omega) (by omega))
  clear la lb lc ls lt hz hr7 hr6 hr5 hr4 hr3 hr2 hL lz lL eL q7' q6' q5' hc e1 e2 e3 e4 e5 n1 n2 n3 n4 n5 hN ea eb ec ep
  go_enter Tryd.func4, Tryd.ntmps4
  go_wp2_with fail
  refine (alive_any _).mono ?_
  rintro e w1 ⟨rfl, hb1⟩
  go_wp2_with fail
  -- the writer's block: the world behind it is w1 with one block more
  have hg0 : w.heap.size ≤ w1.heap.size := hb1.size
  with_reducible refine (out_byte w1.heap.size ⟨[], 0⟩ (some ⟨w1.heap.size + 1, 0, none⟩) 1 1 [xa] _ rfl ?_ (by simp) RA.out ?_ (by simp)).mono ?_
  · exact ints_at _ _ _ _ (by simp) rfl
  · exact (OutAt.new w1).below ((Below.refl _ _).alloc (Nat.le_refl _) _)
  rintro e w2 ⟨rfl, h2, hg2⟩
  rw [W1.out] at h2
  have hb2 : Below w.heap.size w w2 := below_by_new ((hb1.alloc hb1.size _).alloc (by have := hb1.size; simp; omega) _) hg2 hg0
  have hlt2 := h2.lt
  clear hg2
  go_wp2_with fail
  with_reducible refine (out_text w1.heap.size ⟨l1, 0⟩ (some ⟨w2.heap.size, 0, none⟩) 2 2 [s, t] _ rfl ?_ (by simp) st1.out ?_ len1.out).mono ?_
  · exact txts_at _ _ _ _ rfl rfl
  · exact h2.below ((Below.refl _ _).alloc (Nat.le_refl _) _)
  rintro e w3 ⟨rfl, h3, hg3⟩
  rw [W2.out] at h3
  have hb3 : Below w.heap.size w w3 := below_by_new (hb2.alloc hb2.size _) hg3 hg0
  have hlt3 := h3.lt
  clear hg3 h2 hb2 hlt2
  go_wp2_with fail
  with_reducible refine (out_word w1.heap.size ⟨l2, 0⟩ (some ⟨w3.heap.size, 0, none⟩) 2 2 [xb, xb] _ rfl ?_ (by simp) RB.out ?_ len2.out).mono ?_
  · exact ints_at _ _ _ _ rfl rfl
  · exact h3.below ((Below.refl _ _).alloc (Nat.le_refl _) _)
  rintro e w4 ⟨rfl, h4, hg4⟩
  rw [W3.out] at h4
  have hb4 : Below w.heap.size w w4 := below_by_new (hb3.alloc hb3.size _) hg4 hg0
  have hlt4 := h4.lt
  clear hg4 h3 hb3 hlt3
  go_wp2_with fail
  with_reducible refine (out_long w1.heap.size ⟨l3, 0⟩ (some ⟨w4.heap.size, 0, none⟩) 1 1 [xc] _ rfl ?_ (by simp) RC.out ?_ len3.out).mono ?_
  · exact ints_at _ _ _ _ rfl rfl
  · exact h4.below ((Below.refl _ _).alloc (Nat.le_refl _) _)
  rintro e w5 ⟨rfl, h5, hg5⟩
  rw [W4.out] at h5
  have hb5 : Below w.heap.size w w5 := below_by_new (hb4.alloc hb4.size _) hg5 hg0
  have hlt5 := h5.lt
  clear hg5 h4 hb4 hlt4
  go_wp2_with fail
  with_reducible refine (out_raw w1.heap.size ⟨l4, 0⟩ (some ⟨w5.heap.size, 0, none⟩) 2 2 [s, t] _ rfl ?_ (by simp) st2.out ?_ len4.out).mono ?_
  · exact txts_at _ _ _ _ rfl rfl
  · exact h5.below ((Below.refl _ _).alloc (Nat.le_refl _) _)
  rintro e w6 ⟨rfl, h6, hg6⟩
  rw [W5.out] at h6
  have hb6 : Below w.heap.size w w6 := below_by_new (hb5.alloc hb5.size _) hg6 hg0
  have hlt6 := h6.lt
  clear hg6 h5 hb5 hlt5
  go_wp2_with fail
  with_reducible refine (pad_any w1.heap.size ⟨l5, 0⟩ (4100 + xp) _ h6 len5.out).mono ?_
  rintro e w7 ⟨rfl, h7, hg7⟩
  rw [W6.out] at h7
  have hb7 : Below w.heap.size w w7 := below_by_new hb6 hg7 hg0
  have hlt7 := h7.lt
  clear hg7 h6 hb6 hlt6
  go_wp2_with fail
  with_reducible refine (fin_any w1.heap.size ⟨L, 0⟩ _ h7 (Wr.ok_zero _) len6.out).mono ?_
  rintro e w8 ⟨rfl, _, hc8⟩
  have hb8 : Below w.heap.size w w8 := hb7.trans (hc8.mono hb7.size)
  clear hc8 h7 hb7 hlt7
  go_wp2_with fail
  have q0 : (ByteArray.mk L.toArray).size ≤ 140737488351232 := q1.out
  with_reducible refine (on_any ⟨L.toArray⟩ _ q0).mono ?_
  rintro e w9 ⟨g, rfl, hg, h9, hc9⟩
  have hb9 : Below w.heap.size w w9 := hb8.trans (hc9.mono hb8.size)
  have hgw : w.heap.size ≤ g := Nat.le_trans hb8.size hg
  have g9 : InAt w9 g ⟨bs L, 0⟩ := h9
  have hLL := LL.out
  clear hc9 hb8 hg h9 q0
  go_wp2_with fail
  with_reducible refine (in_byte g ⟨bs L, 0⟩ _ g9 q1.out).mono ?_
  rintro e w10 ⟨rfl, g10, hg10⟩
  rw [R1.out] at g10 ⊢
  have hb10 : Below w.heap.size w w10 := below_by_new hb9 hg10 hgw
  clear hg10 g9 hb9 hLL
  go_wp2_with fail
  with_reducible refine (in_text g ⟨bs r2, 0⟩ _ g10 q2.out).mono ?_
  rintro e w11 ⟨rfl, g11, hg11⟩
  rw [R2.out] at g11 ⊢
  have hb11 : Below w.heap.size w w11 := below_by_new hb10 hg11 hgw
  clear hg11 g10 hb10
  go_wp2_with fail
  with_reducible refine (in_text g ⟨bs r3, 0⟩ _ g11 q3.out).mono ?_
  rintro e w12 ⟨rfl, g12, hg12⟩
  rw [R3.out] at g12 ⊢
  have hb12 : Below w.heap.size w w12 := below_by_new hb11 hg12 hgw
  clear hg12 g11 hb11
  go_wp2_with fail
  with_reducible refine (in_word g ⟨bs r4, 0⟩ _ g12 q4.out).mono ?_
  rintro e w13 ⟨rfl, g13, hg13⟩
  rw [R4.out] at g13 ⊢
  have hb13 : Below w.heap.size w w13 := below_by_new hb12 hg13 hgw
  clear hg13 g12 hb12
  go_wp2_with fail
  with_reducible refine (in_word g ⟨bs r5, 0⟩ _ g13 q5.out).mono ?_
  rintro e w14 ⟨rfl, g14, hg14⟩
  rw [R5.out] at g14 ⊢
  have hb14 : Below w.heap.size w w14 := below_by_new hb13 hg14 hgw
  clear hg14 g13 hb13
  go_wp2_with fail
  with_reducible refine (in_long g ⟨bs r6, 0⟩ _ g14 q6.out).mono ?_
  rintro e w15 ⟨rfl, g15, hg15⟩
  rw [R6.out] at g15 ⊢
  have hb15 : Below w.heap.size w w15 := below_by_new hb14 hg15 hgw
  clear hg15 g14 hb14
  go_wp2_with fail
  with_reducible refine (in_raw g ⟨bs r7, 0⟩ _ _ g15 q7.out).mono ?_
  rintro e w16 ⟨rfl, g16, hg16⟩
  rw [R7.out] at g16 ⊢
  have hb16 : Below w.heap.size w w16 := below_by_new hb15 hg16 hgw
  clear hg16 g15 hb15
  go_wp2_with fail
  with_reducible refine (in_rest g ⟨bs z, 0⟩ _ g16).mono ?_
  rintro e v ⟨rfl, rfl⟩
  rw [R8.out]
  go_wp2_with fail
  with_reducible refine (in_end g ⟨bs z, 0⟩ _ g16).mono ?_
  rintro e w17 ⟨rfl, _, hg17⟩
  rw [R9.out]
  have hb17 : Below w.heap.size w w17 := below_by_new hb16 hg17 hgw
  clear hg17 g16 hb16
  go_wp2_with fail
  go_ret
  exact ⟨rfl, hb17⟩
end Go.Proofs.YtdfickppfihiiaaDoor
