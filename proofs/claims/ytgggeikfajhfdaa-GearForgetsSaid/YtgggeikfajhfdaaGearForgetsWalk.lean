/-
  GearForgets, walked at every input. No statement is proved here.
-/
import Derived.Test.YtgggeikfajhfdaaGearAlive
import Derived.Lib.ConvBytes
namespace Go.Proofs.Ytgggeikfajhfdaa
open Go.RowKit

/-- '[]byte(s)': a row of its own, with the bytes of s. -/
theorem conv_bytes (w : World) (S : ByteArray) : ∃ W cap, (convert 9 28 (.string S)).run Try.prog w = .ok (.slice (some ⟨w.heap.size, 0, none⟩) S.size cap) W ∧ Below w.heap.size w W ∧ Byts W W.heap.size (some ⟨w.heap.size, 0, none⟩) S.data.toList := by
  refine ⟨_, _, Lib.run_convert_string_bytes (P := Try.prog) w 9 28 5 S (u := .string) Try.underlying9 Try.underlying28 Try.underlying5, ?_, ?_⟩
  · exact ⟨rfl, rfl, rfl, by rw [Lib.bytesWorld_size]; omega, fun i hi => Lib.bytesWorld_at_old w _ S i hi⟩
  · intro _
    refine ⟨w.heap.size, 0, rfl, by rw [Lib.bytesWorld_size]; omega, fun j x hx => ?_⟩
    have hj : j < S.size := by
      rcases Nat.lt_or_ge j S.data.toList.length with h | h
      · rw [Lib.size_eq]; exact h
      · rw [List.getElem?_eq_none h] at hx; cases hx
    rw [Nat.zero_add, Lib.bytesWorld_cell w 5 S j hj, List.getD_eq_getElem?_getD, hx]
    rfl

theorem of_list (r : Nat) (xs : List ByteArray) (hr : r = groll 0 (cats xs)) (n : Nat) (hn : xs.length = n) (hl : n ≤ 1000) (hs : ∀ x ∈ xs, x.size ≤ 100000) (w : World) (cs : Array Value) (hcs : cs = (xs.map Value.string).toArray) :
    Calls Try.prog 14 #[.slice (some ⟨w.heap.size, 0, none⟩) n n] (w.alloc (.cells cs 9)) fun e w' => e = .returned (.int .u64 (r : Int)) ∧ Below (w.alloc (.cells cs 9)).heap.size (w.alloc (.cells cs 9)) w' := by
  rw [hr]
  exact of_any _ n n xs _ hn (txts_at _ _ _ _ rfl hcs) (by omega) (fun x hx => by have := hs x hx; omega)

set_option maxRecDepth 100000 in
set_option maxHeartbeats 1000000 in
theorem gforgets_out (s a b : ByteArray) (w : World) (h : 1000 < s.size ∨ 1000 < a.size ∨ 1000 < b.size) (_hs : s.size ≤ 140737488351232) (_ha : a.size ≤ 140737488351232) (_hb : b.size ≤ 140737488351232) :
    Calls Try.prog 4 #[.string s, .string a, .string b] w fun e w' => e = .returned (.bool true) ∧ Below w.heap.size w w' := by
  by_cases h1 : 1000 < s.size
  · have hI : (1000 : Int) < (s.size : Int) := by omega
    clear h h1
    go_enter Try.func4, Try.ntmps4
    go_wp2_with (go_at_call 7; refine (alive5_any _).mono ?_; rintro e w1 ⟨rfl, hb1⟩)
    go_wp2_with fail
    go_ret
    exact ⟨rfl, hb1⟩
  · have h1' : s.size ≤ 1000 := by omega
    by_cases h2 : 1000 < a.size
    · have hI : (1000 : Int) < (a.size : Int) := by omega
      clear h h1 h2
      go_enter Try.func4, Try.ntmps4
      go_wp2_with (go_at_call 7; refine (alive5_any _).mono ?_; rintro e w1 ⟨rfl, hb1⟩)
      go_wp2_with fail
      go_ret
      exact ⟨rfl, hb1⟩
    · have h2' : a.size ≤ 1000 := by omega
      have hI : (1000 : Int) < (b.size : Int) := by omega
      clear h h1 h2
      go_enter Try.func4, Try.ntmps4
      go_wp2_with (go_at_call 7; refine (alive5_any _).mono ?_; rintro e w1 ⟨rfl, hb1⟩)
      go_wp2_with fail
      go_ret
      exact ⟨rfl, hb1⟩

set_option maxRecDepth 100000 in
set_option maxHeartbeats 4000000 in
theorem gforgets_in (s a b : ByteArray) (w : World) (h1 : s.size ≤ 1000) (h2 : a.size ≤ 1000) (h3 : b.size ≤ 1000) :
    Calls Try.prog 4 #[.string s, .string a, .string b] w fun e w' => e = .returned (.bool true) ∧ Below w.heap.size w w' := by
  obtain ⟨r, hr⟩ : ∃ r, r = groll 0 (cats [a]) := ⟨_, rfl⟩
  obtain ⟨t, ht⟩ : ∃ t, t = groll r b.data.toList := ⟨_, rfl⟩
  have hrl : r < 18446744073709551616 := by rw [hr]; exact groll_lt _ (by decide)
  have hab : (a ++ b).size ≤ 2000 := by rw [ByteArray.size_append]; omega
  have htab : t = groll 0 (cats [a ++ b]) := by
    rw [ht, hr, ← groll_append, cats_one, cats_one, ByteArray.data_append, Array.toList_append]
  have HO1 := Lib.hid (fun w => of_list r [a] hr 1 rfl (by omega) (by simp; omega) w #[.string a] rfl)
  have HO2 := Lib.hid (fun w => of_list t [a ++ b] htab 1 rfl (by omega) (by simp; omega) w #[.string (a ++ b)] rfl)
  have HRL : Hid (∀ (w : World) (g c : Nat), Byts w w.heap.size (some ⟨g, 0, none⟩) b.data.toList → Calls Try.prog 12 #[.int .u64 (r : Int), .slice (some ⟨g, 0, none⟩) b.size c] w fun e w' => e = .returned (.int .u64 (t : Int)) ∧ w = w') := Lib.hid (fun w g c hB => by
    rw [ht]
    exact roll_any r _ b.size c _ w (Lib.size_eq b).symm hB (by omega) hrl)
  obtain ⟨u, hu⟩ : ∃ u, u = groll 0 (cats [a, s]) := ⟨_, rfl⟩
  have huv : 64 ≤ s.size → u = groll 0 (cats [b, s]) := fun h => by
    have e : ∀ x, cats [x, s] = x.data.toList ++ s.data.toList := fun x => by simp [cats]
    rw [hu, e, e, groll_append, groll_append]
    exact groll_forgets _ _ _ (by rw [← Lib.size_eq]; exact h) (groll_lt _ (by decide)) (groll_lt _ (by decide))
  have HO3 := Lib.hid (fun w => of_list u [a, s] hu 2 rfl (by omega) (by simp; omega) w #[.string a, .string s] rfl)
  have HO4 : Hid (64 ≤ s.size → ∀ w : World, _) := Lib.hid (fun h w => of_list u [b, s] (huv h) 2 rfl (by omega) (by simp; omega) w #[.string b, .string s] rfl)
  have hjs : a.size + b.size ≤ 9223372036854775807 := by omega
  clear hr ht hrl hab htab hu huv
  go_enter Try.func4, Try.ntmps4
  go_wp2_with (go_at_call 7; refine (alive5_any _).mono ?_; rintro e w1 ⟨rfl, hb1⟩)
  go_wp2_with fail
  refine (HO1.out _).mono ?_
  rintro e w2 ⟨rfl, hb2⟩
  have hb2' : Below w.heap.size w w2 := (hb1.alloc hb1.size _).trans (hb2.mono (by have := hb1.size; simp; omega))
  clear hb2 hb1
  obtain ⟨W, cap, hcv, hbW, hBy⟩ := conv_bytes w2 b
  have hb3 : Below w.heap.size w W := hb2'.trans (hbW.mono hb2'.size)
  have HB3 := Lib.hid hb3
  have HBY := Lib.hid hBy
  clear hbW hBy hb2' hb3
  go_wp2_with fail
  refine (HRL.out _ _ _ HBY.out).mono ?_
  rintro e w3 ⟨rfl, rfl⟩
  go_wp2_with fail
  refine (HO2.out _).mono ?_
  rintro e w4 ⟨rfl, hb4⟩
  have hb4' : Below w.heap.size w w4 := (HB3.out.alloc HB3.out.size _).trans (hb4.mono (by have := HB3.out.size; simp; omega))
  clear hb4 hcv
  by_cases hs64 : s.size < 64
  · have hI : (s.size : Int) < 64 := by omega
    clear hs64
    go_wp2_with fail
    go_ret
    exact ⟨by first | rfl | simp, hb4'⟩
  · have hI : (64 : Int) ≤ (s.size : Int) := by omega
    have HO4' := Lib.hid (HO4.out (by omega))
    clear hs64
    go_wp2_with fail
    refine (HO3.out _).mono ?_
    rintro e w5 ⟨rfl, hb5⟩
    have hb5' : Below w.heap.size w w5 := (hb4'.alloc hb4'.size _).trans (hb5.mono (by have := hb4'.size; simp; omega))
    clear hb5 hb4'
    go_wp2_with fail
    refine (HO4'.out _).mono ?_
    rintro e w6 ⟨rfl, hb6⟩
    have hb6' : Below w.heap.size w w6 := (hb5'.alloc hb5'.size _).trans (hb6.mono (by have := hb5'.size; simp; omega))
    clear hb6 hb5'
    go_wp2_with fail
    go_ret
    exact ⟨by first | rfl | simp, hb6'⟩

theorem gforgets_any (s a b : ByteArray) (w : World) (hs : s.size ≤ 140737488351232) (ha : a.size ≤ 140737488351232) (hb : b.size ≤ 140737488351232) :
    Calls Try.prog 4 #[.string s, .string a, .string b] w fun e w' => e = .returned (.bool true) ∧ Below w.heap.size w w' := by
  by_cases h : 1000 < s.size ∨ 1000 < a.size ∨ 1000 < b.size
  · exact gforgets_out s a b w h hs ha hb
  · exact gforgets_in s a b w (by omega) (by omega) (by omega)
end Go.Proofs.Ytgggeikfajhfdaa
