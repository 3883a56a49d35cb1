/-
  CrcTells, walked at every input. No statement is proved here.
-/
import Derived.Test.YtobeaibohmmgeaaRefSeal
import Derived.Test.YtobeaibohmmgeaaBookTexts
import Derived.Test.YtobeaibohmmgeaaCrcAlive
import Derived.Test.YtobeaibohmmgeaaViews
namespace Go.Proofs.Ytobeaibohmmgeaa
open Go.RowKit

theorem cats_part {xs : List ByteArray} {x : ByteArray} (h : x ∈ xs) : x.size ≤ (cats xs).length := by
  obtain ⟨j, hj, rfl⟩ := List.mem_iff_getElem.1 h
  have := cats_len (l := xs) (j := j) (List.getElem?_eq_getElem hj)
  omega

set_option maxRecDepth 100000 in
set_option maxHeartbeats 4000000 in
theorem tells_any (A : Option Addr) (m c : Nat) (xs : List ByteArray) (n : Int) (b : ByteArray) (w : World) (hx : TextsIn w A m c xs) (_hn : -9223372036854775808 ≤ n ∧ n ≤ 9223372036854775807) (hb : b.size ≤ 140737488351232) :
    Calls Try.prog 3 #[.slice A m c, .int .i64 n, .string b] w fun e w' => e = .returned (.bool true) ∧ Below w.heap.size w w' := by
  have HIN := Lib.hid hx
  clear hx
  go_enter Try.func3, Try.ntmps3
  go_wp2_with fail
  refine (short_any 20 2000 A m c xs _ HIN.out.len HIN.out.lie HIN.out.short HIN.out.few (by omega) (by omega) (by omega) (by omega)).mono ?_
  rintro e w1 ⟨⟨r, rfl, hr⟩, hb1⟩
  cases r with
  | false =>
    clear hr
    go_wp2_with fail
    refine (alive2_any _).mono ?_
    rintro e w2 ⟨rfl, hb2⟩
    have hb2' := hb1.trans (hb2.mono hb1.size)
    clear hb1 hb2
    go_wp2_with fail
    go_ret
    exact ⟨rfl, hb2'⟩
  | true =>
    have HR := Lib.hid (hr rfl)
    clear hr
    by_cases hbig : 1000 < b.size
    · go_wp2_with fail
      refine (alive2_any _).mono ?_
      rintro e w2 ⟨rfl, hb2⟩
      have hb2' := hb1.trans (hb2.mono hb1.size)
      clear hb1 hb2
      go_wp2_with fail
      go_ret
      exact ⟨rfl, hb2'⟩
    · have hb' : b.size ≤ 1000 := by omega
      clear hbig
      go_wp2_with fail
      refine (alive2_any _).mono ?_
      rintro e w2 ⟨rfl, hb2⟩
      have hb2' : Below w.heap.size w w2 := hb1.trans (hb2.mono hb1.size)
      clear hb1 hb2
      have hm20 : m ≤ 20 := by have := HR.out.1; rw [HIN.out.len] at this; omega
      have HSUM : Hid ((cats xs).length ≤ 2000) := Lib.hid (by have := HR.out.2; omega)
      have HT : Hid (TextsFit xs) := Lib.hid ⟨by have := HIN.out.len; omega, fun x hx => by have := cats_part hx; have := HSUM.out; omega⟩
      obtain ⟨S, E, hse⟩ : ∃ S E, sealV n (cats xs) = .tuple #[.string S, .int .i64 E] := ⟨_, _, rfl⟩
      obtain ⟨U, G, hop⟩ : ∃ U G, openV b.data.toList = .tuple #[.string U, .int .i64 G] := ⟨_, _, rfl⟩
      obtain ⟨C, hC⟩ : ∃ C, C = crc (cats xs) := ⟨_, rfl⟩
      have hj : (joined xs).size ≤ 2000 := by rw [joined_size]; exact HSUM.out
      have hrs := fun w => ref_seal n (joined xs) w (by omega)
      simp only [joined_list, hse] at hrs
      have hrc := fun w => ref_crc (joined xs) w (by omega)
      simp only [joined_list, ← hC] at hrc
      obtain ⟨J, hJ⟩ : ∃ J, J = joined xs := ⟨_, rfl⟩
      simp only [← hJ] at hrs hrc
      have HRS := Lib.hid hrs
      have HRC := Lib.hid hrc
      have HSE := Lib.hid hse
      have HOP := Lib.hid hop
      have HC := Lib.hid hC
      have HJ := Lib.hid hJ
      have HSZ : Hid (∀ x ∈ xs, x.size ≤ 140737488351232) := Lib.hid (fun x hx => by have := cats_part hx; have := HSUM.out; omega)
      clear hrs hrc hse hop hC hJ hj
      have hx1 : Txts w2 w.heap.size A xs := HIN.out.lie.below hb2'
      have HX1 := Lib.hid hx1
      clear hx1
      go_wp2_with fail
      refine (join_any A m c xs _ HIN.out.len (HX1.out.more hb2'.size) (by omega) (by have := HSUM.out; omega)).mono ?_
      rintro e w3 ⟨rfl, rfl⟩
      rw [← HJ.out]
      go_wp2_with fail
      refine (lent_any A m c xs _ HIN.out.len (HX1.out.more hb2'.size) (by omega) HIN.out.nil_).mono ?_
      rintro e w3 ⟨g, cap, rfl, hL3, hb3⟩
      have hb3' : Below w.heap.size w w3 := hb2'.trans (hb3.mono hb2'.size)
      have HL3 := Lib.hid hL3
      clear hb3 hb2' hL3
      go_wp2_with fail
      refine (seal_any n (some ⟨g, 0, none⟩) m cap xs _ HIN.out.len HL3.out.txts HT.out).mono ?_
      rintro e w4 ⟨rfl, hb4⟩
      rw [HSE.out]
      have hb4' : Below w.heap.size w w4 := hb3'.trans (hb4.mono hb3'.size)
      have HL4 := Lib.hid (HL3.out.below hb4)
      clear hb4 hb3'
      go_wp2_with fail
      refine (HRS.out _).mono ?_
      rintro e w5 ⟨rfl, hb5⟩
      have hb5' : Below w.heap.size w w5 := hb4'.trans (hb5.mono hb4'.size)
      have HL5 := Lib.hid (HL4.out.below hb5)
      clear hb5 hb4'
      go_wp2_with fail
      refine (open_any b _ hb).mono ?_
      rintro e w6 ⟨rfl, hb6⟩
      rw [HOP.out]
      have hb6' : Below w.heap.size w w6 := hb5'.trans (hb6.mono hb5'.size)
      have HL6 := Lib.hid (HL5.out.below hb6)
      clear hb6 hb5'
      go_wp2_with fail
      refine (ref_open b _ hb).mono ?_
      rintro e w7 ⟨rfl, hb7⟩
      rw [HOP.out]
      have hb7' : Below w.heap.size w w7 := hb6'.trans (hb7.mono hb6'.size)
      have HL7 := Lib.hid (HL6.out.below hb7)
      clear hb7 hb6'
      go_wp2_with fail
      refine (of_any (some ⟨g, 0, none⟩) m cap xs _ HIN.out.len HL7.out.txts (by have := HIN.out.len; omega) HSZ.out).mono ?_
      rintro e w8 ⟨rfl, rfl⟩
      rw [← HC.out]
      go_wp2_with fail
      refine (HRC.out _).mono ?_
      rintro e w8 ⟨rfl, rfl⟩
      go_wp2_with fail
      refine (stays_any g cap A m c xs _ _ HIN.out.len HL7.out ((HIN.out.lie.below hb7').more hb7'.size) (by omega)).mono ?_
      rintro e w8 ⟨rfl, k, rfl⟩
      have hb8 : Below w.heap.size w (w7.drewN k) := ⟨hb7'.os, hb7'.tape, hb7'.output, hb7'.size, hb7'.block⟩
      clear hb7'
      go_wp2_with fail
      go_ret
      exact ⟨by first | rfl | simp, hb8⟩
end Go.Proofs.Ytobeaibohmmgeaa
