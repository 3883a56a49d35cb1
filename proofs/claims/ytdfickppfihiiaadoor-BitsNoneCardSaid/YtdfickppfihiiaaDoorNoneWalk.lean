/-
  BitsNone, walked: of a nil writer and of a nil reader.
-/
import Derived.Test.YtdfickppfihiiaaDoorAlive
namespace Go.Proofs.YtdfickppfihiiaaDoor
open Go.RowKit


set_option maxRecDepth 100000 in
set_option maxHeartbeats 4000000 in
theorem none_any (n : Int) (s : ByteArray) (w : World) (h0 : -9223372036854775808 ≤ n) (h1 : n ≤ 9223372036854775807) (hs : s.size ≤ 140737488351232) :
    Calls Tryd.prog 5 #[.int .i64 n, .string s] w fun e w' => e = .returned (.bool true) ∧ Below w.heap.size w w' := by
  by_cases hbig : 200 < s.size
  · go_enter Tryd.func5, Tryd.ntmps5
    go_wp2_with (go_at_call 10; refine (alive_any _).mono ?_; rintro e w1 ⟨rfl, hb1⟩)
    go_ret
    exact ⟨rfl, hb1⟩
  · have hsm : s.size ≤ 200 := by omega
    have HR := Lib.hid (inRange_one h0 h1)
    have HL := Lib.hid (show (textsBytes [s]).length ≤ 140737488351232 by simp [textsBytes, textBytes, lowBytes_length]; omega)
    have HC := Lib.hid (show (cats [s]).length ≤ 140737488351232 by simp [cats]; omega)
    clear hbig hs h0 h1
    go_enter Tryd.func5, Tryd.ntmps5
    go_wp2_with fail
    refine (alive_any _).mono ?_
    rintro e w1 ⟨rfl, hb1⟩
    go_wp2_with fail
    with_reducible refine (out_byte_nil (some ⟨w1.heap.size, 0, none⟩) 1 1 [1] _ rfl ?_ (by simp) (inRange_of (by decide))).mono ?_
    · exact ints_at _ _ _ _ rfl rfl
    rintro e w2 ⟨rfl, hc2⟩
    have hb2 : Below w.heap.size w w2 := (hb1.alloc hb1.size _).trans (hc2.mono (by have := hb1.size; simp; omega))
    clear hb1 hc2
    go_wp2_with fail
    with_reducible refine (out_half_nil (some ⟨w2.heap.size, 0, none⟩) 1 1 [n] _ rfl ?_ (by simp) HR.out).mono ?_
    · exact ints_at _ _ _ _ rfl rfl
    rintro e w3 ⟨rfl, hc3⟩
    have hb3 : Below w.heap.size w w3 := (hb2.alloc hb2.size _).trans (hc3.mono (by have := hb2.size; simp; omega))
    clear hb2 hc3
    go_wp2_with fail
    with_reducible refine (out_word_nil (some ⟨w3.heap.size, 0, none⟩) 1 1 [1] _ rfl ?_ (by simp) (inRange_of (by decide))).mono ?_
    · exact ints_at _ _ _ _ rfl rfl
    rintro e w4 ⟨rfl, hc4⟩
    have hb4 : Below w.heap.size w w4 := (hb3.alloc hb3.size _).trans (hc4.mono (by have := hb3.size; simp; omega))
    clear hb3 hc4
    go_wp2_with fail
    with_reducible refine (out_long_nil (some ⟨w4.heap.size, 0, none⟩) 1 1 [n] _ rfl ?_ (by simp) HR.out).mono ?_
    · exact ints_at _ _ _ _ rfl rfl
    rintro e w5 ⟨rfl, hc5⟩
    have hb5 : Below w.heap.size w w5 := (hb4.alloc hb4.size _).trans (hc5.mono (by have := hb4.size; simp; omega))
    clear hb4 hc5
    go_wp2_with fail
    with_reducible refine (out_text_nil (some ⟨w5.heap.size, 0, none⟩) 1 1 [s] _ rfl ?_ (by simp) HL.out).mono ?_
    · exact txts_at _ _ _ _ rfl rfl
    rintro e w6 ⟨rfl, hc6⟩
    have hb6 : Below w.heap.size w w6 := (hb5.alloc hb5.size _).trans (hc6.mono (by have := hb5.size; simp; omega))
    clear hb5 hc6
    go_wp2_with fail
    with_reducible refine (out_raw_nil (some ⟨w6.heap.size, 0, none⟩) 1 1 [s] _ rfl ?_ (by simp) HC.out).mono ?_
    · exact txts_at _ _ _ _ rfl rfl
    rintro e w7 ⟨rfl, hc7⟩
    have hb7 : Below w.heap.size w w7 := (hb6.alloc hb6.size _).trans (hc7.mono (by have := hb6.size; simp; omega))
    clear hb6 hc7
    go_wp2_with fail
    with_reducible refine (pad_nil n _).mono ?_
    rintro e v ⟨rfl, rfl⟩
    go_wp2_with fail
    with_reducible refine (fin_nil _).mono ?_
    rintro e v ⟨rfl, rfl⟩
    go_wp2_with fail
    with_reducible refine (byte_nil _).mono ?_
    rintro e v ⟨rfl, rfl⟩
    go_wp2_with fail
    with_reducible refine (half_nil _).mono ?_
    rintro e v ⟨rfl, rfl⟩
    go_wp2_with fail
    with_reducible refine (word_nil _).mono ?_
    rintro e v ⟨rfl, rfl⟩
    go_wp2_with fail
    with_reducible refine (long_nil _).mono ?_
    rintro e v ⟨rfl, rfl⟩
    go_wp2_with fail
    with_reducible refine (left_nil _).mono ?_
    rintro e v ⟨rfl, rfl⟩
    go_wp2_with fail
    with_reducible refine (text_nil _).mono ?_
    rintro e w8 ⟨rfl, hc8⟩
    have hb8 : Below w.heap.size w w8 := hb7.trans (hc8.mono hb7.size)
    clear hb7 hc8
    go_wp2_with fail
    with_reducible refine (raw_nil n _).mono ?_
    rintro e w9 ⟨rfl, hc9⟩
    have hb9 : Below w.heap.size w w9 := hb8.trans (hc9.mono hb8.size)
    clear hb8 hc9
    go_wp2_with fail
    with_reducible refine (rest_nil _).mono ?_
    rintro e v ⟨rfl, rfl⟩
    go_wp2_with fail
    with_reducible refine (end_nil _).mono ?_
    rintro e v ⟨rfl, rfl⟩
    go_wp2_with fail
    go_ret
    exact ⟨rfl, hb9⟩
end Go.Proofs.YtdfickppfihiiaaDoor
