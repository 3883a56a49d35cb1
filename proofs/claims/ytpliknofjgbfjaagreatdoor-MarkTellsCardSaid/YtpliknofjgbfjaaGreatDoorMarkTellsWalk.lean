/-
  MarkTells, walked: every argument.
-/
import Derived.Test.YtpliknofjgbfjaaGreatDoorMarkTellsA
import Derived.Test.YtpliknofjgbfjaaGreatDoorMarkTellsB
namespace Go.Proofs.YtpliknofjgbfjaaGreatDoor
open Go.RowKit

set_option maxRecDepth 100000 in
set_option maxHeartbeats 4000000 in
theorem mtells_out (k : Int) (A : Option Addr) (m c : Nat) (xs : List ByteArray) (kp : Int) (p : ByteArray) (kq : Int) (q b : ByteArray) (w : World) (h : 100 < p.size ∨ 100 < q.size ∨ 200 < b.size) (hx : TextsIn w A m c xs) :
    Calls Tryz.prog 3 #[.int .i64 k, .slice A m c, .agg #[.int .i64 kp, .string p], .agg #[.int .i64 kq, .string q], .string b] w fun e w' => e = .returned (.bool true) ∧ Below w.heap.size w w' := by
  have HIN := Lib.hid hx
  have W1s : Below w.heap.size w ((w.alloc (.cells #[.int .i64 kp, .string p] 24)).alloc (.cells #[.int .i64 kq, .string q] 24)) := ((Below.refl _ _).alloc (Nat.le_refl _) _).alloc (by simp) _
  have HW1s := Lib.hid W1s
  clear hx W1s
  by_cases h1 : 100 < p.size
  · clear h
    go_enter Tryz.func3, Tryz.ntmps3
    go_wp2_with fail
    refine (short_any 12 600 A m c xs _ HIN.out.len ((HIN.out.lie.below HW1s.out).more HW1s.out.size) HIN.out.short HIN.out.few (by omega) (by omega) (by omega) (by omega)).mono ?_
    rintro e w1 ⟨⟨r, rfl, hr⟩, hb1⟩
    clear hr
    have bp1 : Blk w1 w.heap.size 24 #[.int .i64 kp, .string p] := ((Blk.new w 24 #[.int .i64 kp, .string p]).alloc _).below hb1 (by simp; omega)
    have bq1 : Blk w1 (w.heap.size + 1) 24 #[.int .i64 kq, .string q] := by
      have := Blk.new (w.alloc (.cells #[.int .i64 kp, .string p] 24)) 24 #[.int .i64 kq, .string q]
      exact Blk.below (by simpa using this) hb1 (by simp)
    have k1 : Below w.heap.size w w1 := HW1s.out.trans (hb1.mono HW1s.out.size)
    have c1 := bp1.cell 1
    have c3 := bq1.cell 1
    simp at c1 c3
    clear hb1 HW1s bp1 bq1
    cases r with
    | false =>
      go_wp2_with fail
      refine (alive6_any _).mono ?_
      rintro e w2 ⟨rfl, hb2⟩
      go_wp2_with fail
      go_ret
      exact ⟨rfl, k1.trans (hb2.mono k1.size)⟩
    | true =>
      go_wp2_with fail
      refine (alive6_any _).mono ?_
      rintro e w2 ⟨rfl, hb2⟩
      go_wp2_with fail
      go_ret
      exact ⟨rfl, k1.trans (hb2.mono k1.size)⟩
  · by_cases h2 : 100 < q.size
    · clear h
      go_enter Tryz.func3, Tryz.ntmps3
      go_wp2_with fail
      refine (short_any 12 600 A m c xs _ HIN.out.len ((HIN.out.lie.below HW1s.out).more HW1s.out.size) HIN.out.short HIN.out.few (by omega) (by omega) (by omega) (by omega)).mono ?_
      rintro e w1 ⟨⟨r, rfl, hr⟩, hb1⟩
      clear hr
      have bp1 : Blk w1 w.heap.size 24 #[.int .i64 kp, .string p] := ((Blk.new w 24 #[.int .i64 kp, .string p]).alloc _).below hb1 (by simp; omega)
      have bq1 : Blk w1 (w.heap.size + 1) 24 #[.int .i64 kq, .string q] := by
        have := Blk.new (w.alloc (.cells #[.int .i64 kp, .string p] 24)) 24 #[.int .i64 kq, .string q]
        exact Blk.below (by simpa using this) hb1 (by simp)
      have k1 : Below w.heap.size w w1 := HW1s.out.trans (hb1.mono HW1s.out.size)
      have c1 := bp1.cell 1
      have c3 := bq1.cell 1
      simp at c1 c3
      clear hb1 HW1s bp1 bq1
      cases r with
      | false =>
        go_wp2_with fail
        refine (alive6_any _).mono ?_
        rintro e w2 ⟨rfl, hb2⟩
        go_wp2_with fail
        go_ret
        exact ⟨rfl, k1.trans (hb2.mono k1.size)⟩
      | true =>
        go_wp2_with fail
        refine (alive6_any _).mono ?_
        rintro e w2 ⟨rfl, hb2⟩
        go_wp2_with fail
        go_ret
        exact ⟨rfl, k1.trans (hb2.mono k1.size)⟩
    · have h3 : 200 < b.size := by omega
      clear h
      go_enter Tryz.func3, Tryz.ntmps3
      go_wp2_with fail
      refine (short_any 12 600 A m c xs _ HIN.out.len ((HIN.out.lie.below HW1s.out).more HW1s.out.size) HIN.out.short HIN.out.few (by omega) (by omega) (by omega) (by omega)).mono ?_
      rintro e w1 ⟨⟨r, rfl, hr⟩, hb1⟩
      clear hr
      have bp1 : Blk w1 w.heap.size 24 #[.int .i64 kp, .string p] := ((Blk.new w 24 #[.int .i64 kp, .string p]).alloc _).below hb1 (by simp; omega)
      have bq1 : Blk w1 (w.heap.size + 1) 24 #[.int .i64 kq, .string q] := by
        have := Blk.new (w.alloc (.cells #[.int .i64 kp, .string p] 24)) 24 #[.int .i64 kq, .string q]
        exact Blk.below (by simpa using this) hb1 (by simp)
      have k1 : Below w.heap.size w w1 := HW1s.out.trans (hb1.mono HW1s.out.size)
      have c1 := bp1.cell 1
      have c3 := bq1.cell 1
      simp at c1 c3
      clear hb1 HW1s bp1 bq1
      cases r with
      | false =>
        go_wp2_with fail
        refine (alive6_any _).mono ?_
        rintro e w2 ⟨rfl, hb2⟩
        go_wp2_with fail
        go_ret
        exact ⟨rfl, k1.trans (hb2.mono k1.size)⟩
      | true =>
        go_wp2_with fail
        refine (alive6_any _).mono ?_
        rintro e w2 ⟨rfl, hb2⟩
        go_wp2_with fail
        go_ret
        exact ⟨rfl, k1.trans (hb2.mono k1.size)⟩

theorem mtells_any (k : Int) (A : Option Addr) (m c : Nat) (xs : List ByteArray) (kp : Int) (p : ByteArray) (kq : Int) (q b : ByteArray) (w : World) (_hk : -9223372036854775808 ≤ k ∧ k ≤ 9223372036854775807) (hx : TextsIn w A m c xs) (_hb : b.size ≤ 140737488351232) :
    Calls Tryz.prog 3 #[.int .i64 k, .slice A m c, .agg #[.int .i64 kp, .string p], .agg #[.int .i64 kq, .string q], .string b] w fun e w' => e = .returned (.bool true) ∧ Below w.heap.size w w' := by
  by_cases h : p.size ≤ 100 ∧ q.size ≤ 100 ∧ b.size ≤ 200
  · obtain ⟨h1, h2, h3⟩ := h
    by_cases hz : sizeK k = 0
    · cases hv : validK kp p with
      | true => exact mtells_zero_yes k A m c xs kp p kq q b w h1 h2 h3 hz hv hx
      | false => exact mtells_zero_no k A m c xs kp p kq q b w h1 h2 h3 hz hv hx
    · cases hv : validK kp p with
      | true => exact mtells_some_yes k A m c xs kp p kq q b w h1 h2 h3 hz hv hx
      | false => exact mtells_some_no k A m c xs kp p kq q b w h1 h2 h3 hz hv hx
  · exact mtells_out k A m c xs kp p kq q b w (by omega) hx
end Go.Proofs.YtpliknofjgbfjaaGreatDoor
