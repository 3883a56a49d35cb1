/-
  TwoTells, walked.
-/
import Derived.Test.YtgefaknpeflggaaTwoKeysWalk
import Derived.Test.YtgefaknpeflggaaTwoPartsWalk
import Derived.Test.YtgefaknpeflggaaViews
namespace Go.Proofs.Ytgefaknpeflggaa
open Go.RowKit

theorem cats_joined (xs : List ByteArray) : cats [joined xs] = cats xs := by rw [cats_one]; rfl

theorem cats_three (xs : List ByteArray) : cats [⟨#[]⟩, joined xs, ⟨#[]⟩] = cats xs := by
  rw [← cats_joined xs]
  simp [cats]

set_option maxRecDepth 100000 in
set_option maxHeartbeats 4000000 in
theorem ttells_neg (A : Option Addr) (m c : Nat) (xs : List ByteArray) (n : Int) (hneg : n < 0) (w : World) (hx : TextsIn w A m c xs) :
    Calls Try.prog 3 #[.slice A m c, .int .i64 n] w fun e w' => e = .returned (.bool true) ∧ Below w.heap.size w w' := by
  have HKY := Lib.hid (fun w => key_any n w)
  rw [show keyOf n = 0 from if_neg (by omega)] at HKY
  have HIN := Lib.hid hx
  clear hx
  go_enter Try.func3, Try.ntmps3
  go_wp2_with fail
  refine (short_any 20 1500 A m c xs _ HIN.out.len HIN.out.lie HIN.out.short HIN.out.few (by omega) (by omega) (by omega) (by omega)).mono ?_
  rintro e w1 ⟨⟨r, rfl, hr⟩, hb1⟩
  cases r with
  | false =>
    clear hr
    go_wp2_with fail
    refine (alive4_any _).mono ?_
    rintro e w2 ⟨rfl, hb2⟩
    have hb2' := hb1.trans (hb2.mono hb1.size)
    clear hb1 hb2
    go_wp2_with fail
    go_ret
    exact ⟨rfl, hb2'⟩
  | true =>
    have HR := Lib.hid (hr rfl)
    clear hr
    go_wp2_with fail
    refine (alive4_any _).mono ?_
    rintro e w2 ⟨rfl, hb2⟩
    have hb2' : Below w.heap.size w w2 := hb1.trans (hb2.mono hb1.size)
    clear hb1 hb2
    have hm20 : m ≤ 20 := by have := HR.out.1; rw [HIN.out.len] at this; omega
    have HSUM : Hid ((cats xs).length ≤ 1500) := Lib.hid (by have := HR.out.2; omega)
    obtain ⟨J, hJ⟩ : ∃ J, J = joined xs := ⟨_, rfl⟩
    have hjs : J.size ≤ 1500 := by rw [hJ, joined_size]; exact HSUM.out
    obtain ⟨T, hT⟩ : ∃ T : ByteArray, T = ⟨(twoB (cats xs)).toArray⟩ := ⟨_, rfl⟩
    have HSM : Hid (∀ (w4 : World) (g cap : Nat), m ≤ cap → Txts w4 w4.heap.size (some ⟨g, 0, none⟩) xs → Calls Try.prog 12 #[.slice (some ⟨g, 0, none⟩) m cap] w4 fun e w' => e = .returned (.string T) ∧ Below w4.heap.size w4 w') :=
      Lib.hid (fun w4 g cap hcap h => by rw [hT]; exact sum_two _ m cap xs w4 HIN.out.len h hcap (by omega) (by have := HSUM.out; omega))
    have HSJ : Hid (∀ (w4 : World) (g : Nat), Txts w4 w4.heap.size (some ⟨g, 0, none⟩) [⟨#[]⟩, J, ⟨#[]⟩] → Calls Try.prog 12 #[.slice (some ⟨g, 0, none⟩) 3 3] w4 fun e w' => e = .returned (.string T) ∧ Below w4.heap.size w4 w') :=
      Lib.hid (fun w4 g h => by
        have hcj : cats [⟨#[]⟩, J, ⟨#[]⟩] = cats xs := by rw [hJ, cats_three]
        have := sum_two (some ⟨g, 0, none⟩) 3 3 [⟨#[]⟩, J, ⟨#[]⟩] w4 rfl h (by omega) (by omega) (by rw [hcj]; have := HSUM.out; omega)
        rw [hcj] at this
        rw [hT]
        exact this)
    have HRS : Hid (∀ w4, Calls Try.prog 13 #[.string J] w4 fun e w' => e = .returned (.string T) ∧ Below w4.heap.size w4 w') := Lib.hid (fun w4 => by
      have := sha2_any J w4 (by omega)
      rw [hJ, joined_list] at this
      rw [hT, hJ]
      exact this)
    have HJ := Lib.hid hJ
    clear hJ hT hjs
    have hx1 : Txts w2 w.heap.size A xs := HIN.out.lie.below hb2'
    have HX1 := Lib.hid hx1
    clear hx1
    go_wp2_with fail
    refine (lent_any A m c xs _ HIN.out.len (HX1.out.more hb2'.size) (by omega) HIN.out.nil_).mono ?_
    rintro e w3 ⟨g, cap, rfl, hL3, hb3⟩
    have hcap : m ≤ cap := by have := hL3.2.2.1; rw [HIN.out.len] at this; omega
    have hb3' : Below w.heap.size w w3 := hb2'.trans (hb3.mono hb2'.size)
    have HL3 := Lib.hid hL3
    clear hb3 hb2' hL3
    go_wp2_with fail
    refine (join_any A m c xs _ HIN.out.len ((HIN.out.lie.below hb3').more hb3'.size) (by omega) (by have := HSUM.out; omega)).mono ?_
    rintro e w4 ⟨rfl, rfl⟩
    rw [← HJ.out]
    go_wp2_with fail
    refine (HSM.out _ _ _ hcap HL3.out.txts).mono ?_
    rintro e w4 ⟨rfl, hb4⟩
    have hb4' : Below w.heap.size w w4 := hb3'.trans (hb4.mono hb3'.size)
    have HL4 := Lib.hid (HL3.out.below hb4)
    clear hb4 hb3'
    go_wp2_with fail
    refine (HRS.out _).mono ?_
    rintro e w5 ⟨rfl, hb5⟩
    have hb5' : Below w.heap.size w w5 := hb4'.trans (hb5.mono hb4'.size)
    have HL5 := Lib.hid (HL4.out.below hb5)
    clear hb5 hb4'
    go_wp2_with fail
    have hxj : Txts (w5.alloc (.cells #[.string ⟨#[]⟩, .string J, .string ⟨#[]⟩] 9)) (w5.alloc (.cells #[.string ⟨#[]⟩, .string J, .string ⟨#[]⟩] 9)).heap.size (some ⟨w5.heap.size, 0, none⟩) [⟨#[]⟩, J, ⟨#[]⟩] := txts_at _ _ _ _ rfl rfl
    refine (HSJ.out _ _ hxj).mono ?_
    rintro e w6 ⟨rfl, hb6⟩
    clear hxj
    have hb6' : Below w.heap.size w w6 := (hb5'.alloc hb5'.size _).trans (hb6.mono (by have := hb5'.size; simp; omega))
    have HL6 := Lib.hid (HL5.out.below (((Below.refl _ _).alloc (Nat.le_refl _) _).trans (hb6.mono (by simp))))
    clear hb6 hb5'
    go_wp2_with fail
    refine (HRS.out _).mono ?_
    rintro e w7 ⟨rfl, hb7⟩
    have hb7' : Below w.heap.size w w7 := hb6'.trans (hb7.mono hb6'.size)
    have HL7 := Lib.hid (HL6.out.below hb7)
    clear hb7 hb6'
    go_wp2_with fail
    refine (HKY.out _).mono ?_
    rintro e w8 ⟨rfl, hb8⟩
    have hb8' : Below w.heap.size w w8 := hb7'.trans (hb8.mono hb7'.size)
    have HL8 := Lib.hid (HL7.out.below hb8)
    clear hb8 hb7'
    go_wp2_with fail
    refine (stays_any g cap A m c xs _ _ HIN.out.len HL8.out ((HIN.out.lie.below hb8').more hb8'.size) (by omega)).mono ?_
    rintro e w10 ⟨rfl, k, rfl⟩
    have hb10 : Below w.heap.size w (w8.drewN k) := ⟨hb8'.os, hb8'.tape, hb8'.output, hb8'.size, hb8'.block⟩
    clear hb8'
    go_wp2_with fail
    go_ret
    exact ⟨by first | rfl | simp, hb10⟩

set_option maxRecDepth 100000 in
set_option maxHeartbeats 4000000 in
theorem ttells_big (A : Option Addr) (m c : Nat) (xs : List ByteArray) (n : Int) (hbig : 64 ≤ n) (w : World) (hx : TextsIn w A m c xs) :
    Calls Try.prog 3 #[.slice A m c, .int .i64 n] w fun e w' => e = .returned (.bool true) ∧ Below w.heap.size w w' := by
  have HKY := Lib.hid (fun w => key_any n w)
  rw [show keyOf n = 0 from if_neg (by omega)] at HKY
  have hge : 0 ≤ n := by omega
  have HIN := Lib.hid hx
  clear hx
  go_enter Try.func3, Try.ntmps3
  go_wp2_with fail
  refine (short_any 20 1500 A m c xs _ HIN.out.len HIN.out.lie HIN.out.short HIN.out.few (by omega) (by omega) (by omega) (by omega)).mono ?_
  rintro e w1 ⟨⟨r, rfl, hr⟩, hb1⟩
  cases r with
  | false =>
    clear hr
    go_wp2_with fail
    refine (alive4_any _).mono ?_
    rintro e w2 ⟨rfl, hb2⟩
    have hb2' := hb1.trans (hb2.mono hb1.size)
    clear hb1 hb2
    go_wp2_with fail
    go_ret
    exact ⟨rfl, hb2'⟩
  | true =>
    have HR := Lib.hid (hr rfl)
    clear hr
    go_wp2_with fail
    refine (alive4_any _).mono ?_
    rintro e w2 ⟨rfl, hb2⟩
    have hb2' : Below w.heap.size w w2 := hb1.trans (hb2.mono hb1.size)
    clear hb1 hb2
    have hm20 : m ≤ 20 := by have := HR.out.1; rw [HIN.out.len] at this; omega
    have HSUM : Hid ((cats xs).length ≤ 1500) := Lib.hid (by have := HR.out.2; omega)
    obtain ⟨J, hJ⟩ : ∃ J, J = joined xs := ⟨_, rfl⟩
    have hjs : J.size ≤ 1500 := by rw [hJ, joined_size]; exact HSUM.out
    obtain ⟨T, hT⟩ : ∃ T : ByteArray, T = ⟨(twoB (cats xs)).toArray⟩ := ⟨_, rfl⟩
    have HSM : Hid (∀ (w4 : World) (g cap : Nat), m ≤ cap → Txts w4 w4.heap.size (some ⟨g, 0, none⟩) xs → Calls Try.prog 12 #[.slice (some ⟨g, 0, none⟩) m cap] w4 fun e w' => e = .returned (.string T) ∧ Below w4.heap.size w4 w') :=
      Lib.hid (fun w4 g cap hcap h => by rw [hT]; exact sum_two _ m cap xs w4 HIN.out.len h hcap (by omega) (by have := HSUM.out; omega))
    have HSJ : Hid (∀ (w4 : World) (g : Nat), Txts w4 w4.heap.size (some ⟨g, 0, none⟩) [⟨#[]⟩, J, ⟨#[]⟩] → Calls Try.prog 12 #[.slice (some ⟨g, 0, none⟩) 3 3] w4 fun e w' => e = .returned (.string T) ∧ Below w4.heap.size w4 w') :=
      Lib.hid (fun w4 g h => by
        have hcj : cats [⟨#[]⟩, J, ⟨#[]⟩] = cats xs := by rw [hJ, cats_three]
        have := sum_two (some ⟨g, 0, none⟩) 3 3 [⟨#[]⟩, J, ⟨#[]⟩] w4 rfl h (by omega) (by omega) (by rw [hcj]; have := HSUM.out; omega)
        rw [hcj] at this
        rw [hT]
        exact this)
    have HRS : Hid (∀ w4, Calls Try.prog 13 #[.string J] w4 fun e w' => e = .returned (.string T) ∧ Below w4.heap.size w4 w') := Lib.hid (fun w4 => by
      have := sha2_any J w4 (by omega)
      rw [hJ, joined_list] at this
      rw [hT, hJ]
      exact this)
    have HJ := Lib.hid hJ
    clear hJ hT hjs
    have hx1 : Txts w2 w.heap.size A xs := HIN.out.lie.below hb2'
    have HX1 := Lib.hid hx1
    clear hx1
    go_wp2_with fail
    refine (lent_any A m c xs _ HIN.out.len (HX1.out.more hb2'.size) (by omega) HIN.out.nil_).mono ?_
    rintro e w3 ⟨g, cap, rfl, hL3, hb3⟩
    have hcap : m ≤ cap := by have := hL3.2.2.1; rw [HIN.out.len] at this; omega
    have hb3' : Below w.heap.size w w3 := hb2'.trans (hb3.mono hb2'.size)
    have HL3 := Lib.hid hL3
    clear hb3 hb2' hL3
    go_wp2_with fail
    refine (join_any A m c xs _ HIN.out.len ((HIN.out.lie.below hb3').more hb3'.size) (by omega) (by have := HSUM.out; omega)).mono ?_
    rintro e w4 ⟨rfl, rfl⟩
    rw [← HJ.out]
    go_wp2_with fail
    refine (HSM.out _ _ _ hcap HL3.out.txts).mono ?_
    rintro e w4 ⟨rfl, hb4⟩
    have hb4' : Below w.heap.size w w4 := hb3'.trans (hb4.mono hb3'.size)
    have HL4 := Lib.hid (HL3.out.below hb4)
    clear hb4 hb3'
    go_wp2_with fail
    refine (HRS.out _).mono ?_
    rintro e w5 ⟨rfl, hb5⟩
    have hb5' : Below w.heap.size w w5 := hb4'.trans (hb5.mono hb4'.size)
    have HL5 := Lib.hid (HL4.out.below hb5)
    clear hb5 hb4'
    go_wp2_with fail
    have hxj : Txts (w5.alloc (.cells #[.string ⟨#[]⟩, .string J, .string ⟨#[]⟩] 9)) (w5.alloc (.cells #[.string ⟨#[]⟩, .string J, .string ⟨#[]⟩] 9)).heap.size (some ⟨w5.heap.size, 0, none⟩) [⟨#[]⟩, J, ⟨#[]⟩] := txts_at _ _ _ _ rfl rfl
    refine (HSJ.out _ _ hxj).mono ?_
    rintro e w6 ⟨rfl, hb6⟩
    clear hxj
    have hb6' : Below w.heap.size w w6 := (hb5'.alloc hb5'.size _).trans (hb6.mono (by have := hb5'.size; simp; omega))
    have HL6 := Lib.hid (HL5.out.below (((Below.refl _ _).alloc (Nat.le_refl _) _).trans (hb6.mono (by simp))))
    clear hb6 hb5'
    go_wp2_with fail
    refine (HRS.out _).mono ?_
    rintro e w7 ⟨rfl, hb7⟩
    have hb7' : Below w.heap.size w w7 := hb6'.trans (hb7.mono hb6'.size)
    have HL7 := Lib.hid (HL6.out.below hb7)
    clear hb7 hb6'
    go_wp2_with fail
    refine (HKY.out _).mono ?_
    rintro e w8 ⟨rfl, hb8⟩
    have hb8' : Below w.heap.size w w8 := hb7'.trans (hb8.mono hb7'.size)
    have HL8 := Lib.hid (HL7.out.below hb8)
    clear hb8 hb7'
    go_wp2_with fail
    refine (stays_any g cap A m c xs _ _ HIN.out.len HL8.out ((HIN.out.lie.below hb8').more hb8'.size) (by omega)).mono ?_
    rintro e w10 ⟨rfl, k, rfl⟩
    have hb10 : Below w.heap.size w (w8.drewN k) := ⟨hb8'.os, hb8'.tape, hb8'.output, hb8'.size, hb8'.block⟩
    clear hb8'
    go_wp2_with fail
    go_ret
    exact ⟨by first | rfl | simp, hb10⟩

set_option maxRecDepth 100000 in
set_option maxHeartbeats 4000000 in
theorem ttells_in (A : Option Addr) (m c : Nat) (xs : List ByteArray) (j : Nat) (hj64 : j < 64) (w : World) (hx : TextsIn w A m c xs) :
    Calls Try.prog 3 #[.slice A m c, .int .i64 (j : Int)] w fun e w' => e = .returned (.bool true) ∧ Below w.heap.size w w' := by
  have hk : keyOf (j : Int) = keysL.getD j 0 := by
    unfold keyOf
    rw [if_pos (by omega), Int.toNat_natCast]
  obtain ⟨y, hy⟩ : ∃ y, y = keysL.getD j 0 := ⟨_, rfl⟩
  have HKY : Hid (∀ w, Calls Try.prog 14 #[.int .i64 (j : Int)] w fun e w' => e = .returned (.int .u32 (y : Int)) ∧ Below w.heap.size w w') := Lib.hid (fun w => by
    have := key_any (j : Int) w
    rw [hk, ← hy] at this
    exact this)
  have hg := keyCells_get hj64
  rw [← hy] at hg
  obtain ⟨KC, hKC⟩ : ∃ K, K = keyCells := ⟨_, rfl⟩
  have HKR : Hid (∀ w, Calls Try.prog 11 #[] w fun e w' => e = .returned (.slice (some ⟨w.heap.size, 0, none⟩) 64 64) ∧ w' = w.alloc (.cells KC 27)) := Lib.hid (fun w => by rw [hKC]; exact keys_any w)
  rw [← hKC] at hg
  have HG := Lib.hid hg
  have h3 : (j : Int) < 64 := by omega
  clear hk hy hg hKC
  have HIN := Lib.hid hx
  clear hx
  go_enter Try.func3, Try.ntmps3
  go_wp2_with fail
  refine (short_any 20 1500 A m c xs _ HIN.out.len HIN.out.lie HIN.out.short HIN.out.few (by omega) (by omega) (by omega) (by omega)).mono ?_
  rintro e w1 ⟨⟨r, rfl, hr⟩, hb1⟩
  cases r with
  | false =>
    clear hr
    go_wp2_with fail
    refine (alive4_any _).mono ?_
    rintro e w2 ⟨rfl, hb2⟩
    have hb2' := hb1.trans (hb2.mono hb1.size)
    clear hb1 hb2
    go_wp2_with fail
    go_ret
    exact ⟨rfl, hb2'⟩
  | true =>
    have HR := Lib.hid (hr rfl)
    clear hr
    go_wp2_with fail
    refine (alive4_any _).mono ?_
    rintro e w2 ⟨rfl, hb2⟩
    have hb2' : Below w.heap.size w w2 := hb1.trans (hb2.mono hb1.size)
    clear hb1 hb2
    have hm20 : m ≤ 20 := by have := HR.out.1; rw [HIN.out.len] at this; omega
    have HSUM : Hid ((cats xs).length ≤ 1500) := Lib.hid (by have := HR.out.2; omega)
    obtain ⟨J, hJ⟩ : ∃ J, J = joined xs := ⟨_, rfl⟩
    have hjs : J.size ≤ 1500 := by rw [hJ, joined_size]; exact HSUM.out
    obtain ⟨T, hT⟩ : ∃ T : ByteArray, T = ⟨(twoB (cats xs)).toArray⟩ := ⟨_, rfl⟩
    have HSM : Hid (∀ (w4 : World) (g cap : Nat), m ≤ cap → Txts w4 w4.heap.size (some ⟨g, 0, none⟩) xs → Calls Try.prog 12 #[.slice (some ⟨g, 0, none⟩) m cap] w4 fun e w' => e = .returned (.string T) ∧ Below w4.heap.size w4 w') :=
      Lib.hid (fun w4 g cap hcap h => by rw [hT]; exact sum_two _ m cap xs w4 HIN.out.len h hcap (by omega) (by have := HSUM.out; omega))
    have HSJ : Hid (∀ (w4 : World) (g : Nat), Txts w4 w4.heap.size (some ⟨g, 0, none⟩) [⟨#[]⟩, J, ⟨#[]⟩] → Calls Try.prog 12 #[.slice (some ⟨g, 0, none⟩) 3 3] w4 fun e w' => e = .returned (.string T) ∧ Below w4.heap.size w4 w') :=
      Lib.hid (fun w4 g h => by
        have hcj : cats [⟨#[]⟩, J, ⟨#[]⟩] = cats xs := by rw [hJ, cats_three]
        have := sum_two (some ⟨g, 0, none⟩) 3 3 [⟨#[]⟩, J, ⟨#[]⟩] w4 rfl h (by omega) (by omega) (by rw [hcj]; have := HSUM.out; omega)
        rw [hcj] at this
        rw [hT]
        exact this)
    have HRS : Hid (∀ w4, Calls Try.prog 13 #[.string J] w4 fun e w' => e = .returned (.string T) ∧ Below w4.heap.size w4 w') := Lib.hid (fun w4 => by
      have := sha2_any J w4 (by omega)
      rw [hJ, joined_list] at this
      rw [hT, hJ]
      exact this)
    have HJ := Lib.hid hJ
    clear hJ hT hjs
    have hx1 : Txts w2 w.heap.size A xs := HIN.out.lie.below hb2'
    have HX1 := Lib.hid hx1
    clear hx1
    go_wp2_with fail
    refine (lent_any A m c xs _ HIN.out.len (HX1.out.more hb2'.size) (by omega) HIN.out.nil_).mono ?_
    rintro e w3 ⟨g, cap, rfl, hL3, hb3⟩
    have hcap : m ≤ cap := by have := hL3.2.2.1; rw [HIN.out.len] at this; omega
    have hb3' : Below w.heap.size w w3 := hb2'.trans (hb3.mono hb2'.size)
    have HL3 := Lib.hid hL3
    clear hb3 hb2' hL3
    go_wp2_with fail
    refine (join_any A m c xs _ HIN.out.len ((HIN.out.lie.below hb3').more hb3'.size) (by omega) (by have := HSUM.out; omega)).mono ?_
    rintro e w4 ⟨rfl, rfl⟩
    rw [← HJ.out]
    go_wp2_with fail
    have hc : (w3.alloc (.cells KC 27)).cell? ⟨w3.heap.size, j, none⟩ = some (.int .u32 (y : Int)) := ((Blk.new w3 27 KC).cell j).trans HG.out
    refine (HKR.out _).mono ?_
    rintro e w4 ⟨rfl, rfl⟩
    go_upto_region 8 with fail
    clear hc
    have hbk : Below w.heap.size w (w3.alloc (.cells KC 27)) := hb3'.alloc hb3'.size _
    have HLK := Lib.hid (HL3.out.below ((Below.refl _ _).alloc (Nat.le_refl _) (.cells KC 27)))
    obtain ⟨W3, hW3⟩ : ∃ W, W = w3.alloc (.cells KC 27) := ⟨_, rfl⟩
    rw [← hW3] at hbk HLK
    rw [← hW3]
    clear hW3
    go_wp2_with fail
    refine (HSM.out _ _ _ hcap HLK.out.txts).mono ?_
    rintro e w4 ⟨rfl, hb4⟩
    have hb4' : Below w.heap.size w w4 := hbk.trans (hb4.mono hbk.size)
    have HL4 := Lib.hid (HLK.out.below hb4)
    clear hb4 hb3'
    go_wp2_with fail
    refine (HRS.out _).mono ?_
    rintro e w5 ⟨rfl, hb5⟩
    have hb5' : Below w.heap.size w w5 := hb4'.trans (hb5.mono hb4'.size)
    have HL5 := Lib.hid (HL4.out.below hb5)
    clear hb5 hb4'
    go_wp2_with fail
    have hxj : Txts (w5.alloc (.cells #[.string ⟨#[]⟩, .string J, .string ⟨#[]⟩] 9)) (w5.alloc (.cells #[.string ⟨#[]⟩, .string J, .string ⟨#[]⟩] 9)).heap.size (some ⟨w5.heap.size, 0, none⟩) [⟨#[]⟩, J, ⟨#[]⟩] := txts_at _ _ _ _ rfl rfl
    refine (HSJ.out _ _ hxj).mono ?_
    rintro e w6 ⟨rfl, hb6⟩
    clear hxj
    have hb6' : Below w.heap.size w w6 := (hb5'.alloc hb5'.size _).trans (hb6.mono (by have := hb5'.size; simp; omega))
    have HL6 := Lib.hid (HL5.out.below (((Below.refl _ _).alloc (Nat.le_refl _) _).trans (hb6.mono (by simp))))
    clear hb6 hb5'
    go_wp2_with fail
    refine (HRS.out _).mono ?_
    rintro e w7 ⟨rfl, hb7⟩
    have hb7' : Below w.heap.size w w7 := hb6'.trans (hb7.mono hb6'.size)
    have HL7 := Lib.hid (HL6.out.below hb7)
    clear hb7 hb6'
    go_wp2_with fail
    refine (HKY.out _).mono ?_
    rintro e w8 ⟨rfl, hb8⟩
    have hb8' : Below w.heap.size w w8 := hb7'.trans (hb8.mono hb7'.size)
    have HL8 := Lib.hid (HL7.out.below hb8)
    clear hb8 hb7'
    go_wp2_with fail
    refine (stays_any g cap A m c xs _ _ HIN.out.len HL8.out ((HIN.out.lie.below hb8').more hb8'.size) (by omega)).mono ?_
    rintro e w10 ⟨rfl, k, rfl⟩
    have hb10 : Below w.heap.size w (w8.drewN k) := ⟨hb8'.os, hb8'.tape, hb8'.output, hb8'.size, hb8'.block⟩
    clear hb8'
    go_wp2_with fail
    go_ret
    exact ⟨by first | rfl | simp, hb10⟩

theorem ttells_any (A : Option Addr) (m c : Nat) (xs : List ByteArray) (n : Int) (w : World) (hx : TextsIn w A m c xs) (_hn : -9223372036854775808 ≤ n ∧ n ≤ 9223372036854775807) :
    Calls Try.prog 3 #[.slice A m c, .int .i64 n] w fun e w' => e = .returned (.bool true) ∧ Below w.heap.size w w' := by
  by_cases h1 : n < 0
  · exact ttells_neg A m c xs n h1 w hx
  · by_cases h2 : 64 ≤ n
    · exact ttells_big A m c xs n h2 w hx
    · obtain ⟨j, rfl⟩ : ∃ j : Nat, n = (j : Int) := ⟨n.toNat, by omega⟩
      exact ttells_in A m c xs j (by omega) w hx
end Go.Proofs.Ytgefaknpeflggaa
