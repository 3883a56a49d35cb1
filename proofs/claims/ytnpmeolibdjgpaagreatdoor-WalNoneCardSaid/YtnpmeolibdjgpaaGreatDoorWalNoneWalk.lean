/-
  WalNone: the law's walk. No statement is proved here.
-/
import Derived.Test.YtnpmeolibdjgpaaGreatDoorWalAlive
namespace Go.Proofs.YtnpmeolibdjgpaaGreatDoor
open Go.RowKit

theorem crashed_off (s : List ByteArray) (n : Nat) : ((calm s n).crash []).on = false ∧ ((calm s n).crash []).now = s := ⟨rfl, rfl⟩

set_option maxRecDepth 100000 in
set_option maxHeartbeats 4000000 in
theorem wnone_any (at_ : Int) (xa : Int) (xs : ByteArray) (w : World) (_ : -9223372036854775808 ≤ at_ ∧ at_ ≤ 9223372036854775807) :
    Calls Tryz.prog 5 #[.int .i64 at_, .agg #[.int .i64 xa, .string xs]] w fun e w' => e = .returned (.bool true) ∧ Below w.heap.size w w' := by
  by_cases hs : xs.size ≤ 300
  · have hsI : (xs.size : Int) ≤ 300 := by omega
    obtain ⟨s, hse⟩ : ∃ s, s = List.replicate 140 (zeroB 256) := ⟨_, rfl⟩
    have hsz : ∀ x ∈ s, x.size ≤ 100000 := fun x hx => by rw [hse] at hx; rw [List.eq_of_mem_replicate hx, zeroB_size]; omega
    have HN : Hid (∀ W, Calls Tryz.prog 26 #[.int .i64 140] W fun e w' => ∃ g O, e = .returned (.tuple #[.pointer (some ⟨g, 0, none⟩), .int .i64 0]) ∧ DiskAt w' O g (calm s 0) ∧ (∀ b ∈ O, W.heap.size ≤ b) ∧ Below W.heap.size W w') := Lib.hid (fun W => by
      rw [hse]
      exact dnew_yes 140 140 W rfl (by omega) (by omega))
    have HC : Hid (∀ W O g, DiskAt W O g (calm s 0) → Calls Tryz.prog 39 #[.pointer (some ⟨g, 0, none⟩), .slice none 0 0] W fun e w' => ∃ k, e = .returned (.int .i64 k) ∧ Turns O g ((calm s 0).crash []) W w') := Lib.hid (fun W O g hd => by
      refine (dcrash_any none 0 0 [] hd (calm_ok s 0) rfl (IntsD.nil _ _) (fun h => by cases h)).mono ?_
      rintro e w' ⟨rfl, h⟩
      exact ⟨_, rfl, h⟩)
    have HO : Hid (∀ W O g, DiskAt W O g ((calm s 0).crash []) → Calls Tryz.prog 27 #[.pointer (some ⟨g, 0, none⟩)] W fun e w' => e = .returned (.tuple #[.pointer none, .int .i64 14]) ∧ Below W.heap.size W w') := Lib.hid (fun W O g hd => wopen_off hd (fun x hx => hsz x hx) rfl)
    have HAL := Lib.hid (alive9_any)
    clear hse hsz hs
    go_enter Tryz.func5, Tryz.ntmps5
    go_upto_region 1 with fail
    obtain ⟨w0, hw0⟩ : ∃ w0, w0 = w.alloc (.cells #[.int .i64 xa, .string xs] 71) := ⟨_, rfl⟩
    obtain ⟨gx, hgx⟩ : ∃ gx, gx = w.heap.size := ⟨_, rfl⟩
    rw [← hw0, ← hgx]
    have HX0 : Hid (Blk w0 gx 71 #[.int .i64 xa, .string xs]) := Lib.hid (by rw [hw0, hgx]; exact Blk.new w _ _)
    have HB0 : Hid (Below w.heap.size w w0) := Lib.hid (by rw [hw0]; exact (Below.refl _ _).alloc (Nat.le_refl _) _)
    have c1 := HX0.out.cell 1
    simp at c1
    clear hw0 hgx
    go_wp2_with fail
    refine (HAL.out _).mono ?_
    rintro e w1 ⟨rfl, hb1⟩
    have HX1 := Lib.hid (HX0.out.below hb1 HX0.out.lt)
    have HB1 := Lib.hid (HB0.out.trans (hb1.mono HB0.out.size))
    clear hb1 c1 HX0 HB0
    go_wp2_with fail
    refine (wopen_nil _).mono ?_
    rintro e w2 ⟨rfl, rfl⟩
    go_wp2_with fail
    refine (HN.out _).mono ?_
    rintro e w3 ⟨g, O, rfl, hd, hO, hb3⟩
    have HD3 := Lib.hid hd
    have HO3 := Lib.hid (fun b hb => Nat.le_trans HB1.out.size (hO b hb))
    have HX3 := Lib.hid (HX1.out.below hb3 HX1.out.lt)
    have HXO : Hid (gx ∉ O) := Lib.hid (fun hm => by have := hO gx hm; have := HX1.out.lt; omega)
    have HB3 := Lib.hid (HB1.out.trans (hb3.mono HB1.out.size))
    clear hd hO hb3 HX1 HB1
    go_wp2_with fail
    refine (HC.out _ _ _ HD3.out).mono ?_
    rintro e w4 ⟨k, rfl, O4, d1, d2, d3⟩
    have HD4 := Lib.hid d1
    have HX4 : Hid (Blk w4 gx 71 #[.int .i64 xa, .string xs]) := Lib.hid ((d3.block gx HX3.out.lt HXO.out).trans HX3.out)
    have HB4 : Hid (Below w.heap.size w w4) := Lib.hid (HB3.out.trans (d3.below HO3.out HB3.out.size))
    clear d1 d2 d3 HD3 HX3 HB3
    go_wp2_with fail
    refine (HO.out _ _ _ HD4.out).mono ?_
    rintro e w5 ⟨rfl, hb5⟩
    have hx5 := HX4.out.below hb5 HX4.out.lt
    have HB5 : Hid (Below w.heap.size w w5) := Lib.hid (HB4.out.trans (hb5.mono HB4.out.size))
    have x0 := hx5.cell 0
    have x1 := hx5.cell 1
    simp at x0 x1
    clear hb5 hx5 HX4 HB4 HD4
    go_wp2_with (first
      | (go_at_call 41; refine (wread_nil _ _).mono ?_; rintro e w8 ⟨rfl, rfl⟩)
      | (go_at_call 31; refine (wcommit_nil _ _).mono ?_; rintro e w8 ⟨rfl, rfl⟩)
      | (go_at_call 42; refine (wsize_nil _).mono ?_; rintro e w8 ⟨rfl, rfl⟩)
      | (go_at_call 34; refine (wseq_nil _).mono ?_; rintro e w8 ⟨rfl, rfl⟩)
      | (go_at_call 43; refine (wcommits_nil _).mono ?_; rintro e w8 ⟨rfl, rfl⟩)
      | (go_at_call 36; refine (wup_nil _).mono ?_; rintro e w8 ⟨rfl, rfl⟩))
    go_ret
    exact ⟨rfl, HB5.out.alloc HB5.out.size _⟩
  · have hsI : (300 : Int) < (xs.size : Int) := by omega
    have HAL := Lib.hid (alive9_any)
    clear hs
    go_enter Tryz.func5, Tryz.ntmps5
    go_wp2_with fail
    refine (HAL.out _).mono ?_
    rintro e w1 ⟨rfl, hb1⟩
    go_wp2_with fail
    go_ret
    exact ⟨rfl, ((Below.refl _ _).alloc (Nat.le_refl _) _).trans (hb1.mono (by simp))⟩
end Go.Proofs.YtnpmeolibdjgpaaGreatDoor
