/-
  OneTells, walked.
-/
import Derived.Test.YtmogokcbakgplaaOnePadsWalk
import Derived.Test.YtmogokcbakgplaaOneKnownWalk
import Derived.Test.YtmogokcbakgplaaOneSha
import Derived.Test.YtmogokcbakgplaaViews
namespace Go.Proofs.Ytmogokcbakgplaa
open Go.RowKit

theorem pads_both (n : Int) : ∃ T : ByteArray, (∀ w, Calls Try.prog 13 #[.int .i64 n] w fun e w' => e = .returned (.string T) ∧ Below w.heap.size w w') ∧
    (∀ w, Calls Try.prog 14 #[.int .i64 n] w fun e w' => e = .returned (.string T) ∧ Below w.heap.size w w') := by
  by_cases h : n < 0 ∨ 1099511627776 < n
  · exact ⟨⟨#[]⟩, fun w => (pad_out n w h).mono fun _ _ ⟨h1, h2⟩ => ⟨h1, h2 ▸ Below.refl _ _⟩, fun w => (refpad_out n w h).mono fun _ _ ⟨h1, h2⟩ => ⟨h1, h2 ▸ Below.refl _ _⟩⟩
  · obtain ⟨k, rfl⟩ : ∃ k : Nat, n = (k : Int) := ⟨n.toNat, by omega⟩
    exact ⟨⟨(padB k).toArray⟩, fun w => pad_any k w (by omega), fun w => refpad_any k w (by omega)⟩
theorem cats_joined (xs : List ByteArray) : cats [joined xs] = cats xs := by rw [cats_one]; rfl

set_option maxRecDepth 100000 in
set_option maxHeartbeats 4000000 in
theorem otells_any (A : Option Addr) (m c : Nat) (xs : List ByteArray) (n : Int) (w : World) (hx : TextsIn w A m c xs) (_hn : -9223372036854775808 ≤ n ∧ n ≤ 9223372036854775807) :
    Calls Try.prog 3 #[.slice A m c, .int .i64 n] w fun e w' => e = .returned (.bool true) ∧ Below w.heap.size w w' := by
  have HIN := Lib.hid hx
  clear hx
  go_enter Try.func3, Try.ntmps3
  go_wp2_with fail
  refine (short_any 20 1500 A m c xs _ HIN.out.len HIN.out.lie HIN.out.short HIN.out.few (by omega) (by omega) (by omega) (by omega)).mono ?_
  rintro e w1 ⟨⟨r, rfl, hr⟩, hb1⟩
  cases r with
  | false =>
    clear hr
    go_wp2_with fail
    refine (alive3_any _).mono ?_
    rintro e w2 ⟨rfl, hb2⟩
    have hb2' := hb1.trans (hb2.mono hb1.size)
    clear hb1 hb2
    go_wp2_with fail
    go_ret
    exact ⟨rfl, hb2'⟩
  | true =>
    have HR := Lib.hid (hr rfl)
    clear hr
    go_wp2_with fail
    refine (alive3_any _).mono ?_
    rintro e w2 ⟨rfl, hb2⟩
    have hb2' : Below w.heap.size w w2 := hb1.trans (hb2.mono hb1.size)
    clear hb1 hb2
    have hm20 : m ≤ 20 := by have := HR.out.1; rw [HIN.out.len] at this; omega
    have HSUM : Hid ((cats xs).length ≤ 1500) := Lib.hid (by have := HR.out.2; omega)
    obtain ⟨J, hJ⟩ : ∃ J, J = joined xs := ⟨_, rfl⟩
    have hjs : J.size ≤ 1500 := by rw [hJ, joined_size]; exact HSUM.out
    obtain ⟨T, hT⟩ : ∃ T : ByteArray, T = ⟨(oneB (cats xs)).toArray⟩ := ⟨_, rfl⟩
    have HSM : Hid (∀ (w4 : World) (g cap : Nat), Txts w4 w4.heap.size (some ⟨g, 0, none⟩) xs → Calls Try.prog 11 #[.slice (some ⟨g, 0, none⟩) m cap] w4 fun e w' => e = .returned (.string T) ∧ Below w4.heap.size w4 w') :=
      Lib.hid (fun w4 g cap h => by rw [hT]; exact sum_any _ m cap xs w4 HIN.out.len h (by omega) (by have := HSUM.out; omega))
    have HSJ : Hid (∀ (w4 : World) (g cap : Nat), Txts w4 w4.heap.size (some ⟨g, 0, none⟩) [J] → Calls Try.prog 11 #[.slice (some ⟨g, 0, none⟩) 1 cap] w4 fun e w' => e = .returned (.string T) ∧ Below w4.heap.size w4 w') :=
      Lib.hid (fun w4 g cap h => by
        have := sum_any (some ⟨g, 0, none⟩) 1 cap [J] w4 rfl h (by omega) (by rw [hJ, cats_joined]; have := HSUM.out; omega)
        rw [hJ, cats_joined] at this
        rw [hT]
        exact this)
    have HRS : Hid (∀ w4, Calls Try.prog 12 #[.string J] w4 fun e w' => e = .returned (.string T) ∧ Below w4.heap.size w4 w') := Lib.hid (fun w4 => by
      have := sha_any J w4 (by omega)
      rw [hJ, joined_list] at this
      rw [hT, hJ]
      exact this)
    obtain ⟨PT, hp1, hp2⟩ := pads_both n
    have HP1 := Lib.hid hp1
    have HP2 := Lib.hid hp2
    have HJ := Lib.hid hJ
    clear hp1 hp2 hJ hT hjs
    have hx1 : Txts w2 w.heap.size A xs := HIN.out.lie.below hb2'
    have HX1 := Lib.hid hx1
    clear hx1
    go_wp2_with fail
    refine (lent_any A m c xs _ HIN.out.len (HX1.out.more hb2'.size) (by omega) HIN.out.nil_).mono ?_
    rintro e w3 ⟨g, cap, rfl, hL3, hb3⟩
    have hb3' : Below w.heap.size w w3 := hb2'.trans (hb3.mono hb2'.size)
    have HL3 := Lib.hid hL3
    clear hb3 hb2' hL3
    go_wp2_with fail
    refine (join_any A m c xs _ HIN.out.len ((HIN.out.lie.below hb3').more hb3'.size) (by omega) (by have := HSUM.out; omega)).mono ?_
    rintro e w4 ⟨rfl, rfl⟩
    rw [← HJ.out]
    go_wp2_with fail
    refine (HSM.out _ _ _ HL3.out.txts).mono ?_
    rintro e w4 ⟨rfl, hb4⟩
    have hb4' : Below w.heap.size w w4 := hb3'.trans (hb4.mono hb3'.size)
    have HL4 := Lib.hid (HL3.out.below hb4)
    clear hb4 hb3'
    go_wp2_with fail
    refine (HRS.out _).mono ?_
    rintro e w5 ⟨rfl, hb5⟩
    have hb5' : Below w.heap.size w w5 := hb4'.trans (hb5.mono hb4'.size)
    have HL5 := Lib.hid (HL4.out.below hb5)
    clear hb5 hb4'
    go_wp2_with fail
    have hxj : Txts (w5.alloc (.cells #[.string J] 9)) (w5.alloc (.cells #[.string J] 9)).heap.size (some ⟨w5.heap.size, 0, none⟩) [J] := txts_at _ _ _ _ rfl rfl
    refine (HSJ.out _ _ _ hxj).mono ?_
    rintro e w6 ⟨rfl, hb6⟩
    clear hxj
    have hb6' : Below w.heap.size w w6 := (hb5'.alloc hb5'.size _).trans (hb6.mono (by have := hb5'.size; simp; omega))
    have HL6 := Lib.hid (HL5.out.below (((Below.refl _ _).alloc (Nat.le_refl _) _).trans (hb6.mono (by simp))))
    clear hb6 hb5'
    go_wp2_with fail
    refine (HRS.out _).mono ?_
    rintro e w7 ⟨rfl, hb7⟩
    have hb7' : Below w.heap.size w w7 := hb6'.trans (hb7.mono hb6'.size)
    have HL7 := Lib.hid (HL6.out.below hb7)
    clear hb7 hb6'
    go_wp2_with fail
    refine (HP1.out _).mono ?_
    rintro e w8 ⟨rfl, hb8⟩
    have hb8' : Below w.heap.size w w8 := hb7'.trans (hb8.mono hb7'.size)
    have HL8 := Lib.hid (HL7.out.below hb8)
    clear hb8 hb7'
    go_wp2_with fail
    refine (HP2.out _).mono ?_
    rintro e w9 ⟨rfl, hb9⟩
    have hb9' : Below w.heap.size w w9 := hb8'.trans (hb9.mono hb8'.size)
    have HL9 := Lib.hid (HL8.out.below hb9)
    clear hb9 hb8'
    go_wp2_with fail
    refine (stays_any g cap A m c xs _ _ HIN.out.len HL9.out ((HIN.out.lie.below hb9').more hb9'.size) (by omega)).mono ?_
    rintro e w10 ⟨rfl, k, rfl⟩
    have hb10 : Below w.heap.size w (w9.drewN k) := ⟨hb9'.os, hb9'.tape, hb9'.output, hb9'.size, hb9'.block⟩
    clear hb9'
    go_wp2_with fail
    go_ret
    exact ⟨by first | rfl | simp, hb10⟩
end Go.Proofs.Ytmogokcbakgplaa
