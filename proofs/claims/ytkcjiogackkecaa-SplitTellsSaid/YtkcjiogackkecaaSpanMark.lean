/-
  masonrybook's marks of a list of spans. No statement is proved here.
-/
import Derived.Test.YtkcjiogackkecaaSpanList
namespace Go.Proofs.Ytkcjiogackkecaa
open Go.RowKit

theorem flatS_append (a b : List (Int × Int)) : flatS (a ++ b) = flatS a ++ flatS b := by unfold flatS; exact List.flatMap_append
/-- The mark of list i at place k; so many of them from a place on. -/
def markS (i k : Nat) : Int := -1000 * (i : Int) - (k : Int) - 1
def marksS (i a n : Nat) : List (Int × Int) := (List.range n).map fun j => (markS i (a + j), 0)
theorem marksS_length (i a n : Nat) : (marksS i a n).length = n := by simp [marksS]
theorem marksS_snoc (i a n : Nat) : marksS i a (n + 1) = marksS i a n ++ [(markS i (a + n), 0)] := by simp [marksS, List.range_succ]
theorem marksS_get {i a n j : Nat} (h : j < n) : (marksS i a n)[j]? = some (markS i (a + j), 0) := by
  unfold marksS
  rw [List.getElem?_map, List.getElem?_range h]
  rfl
theorem marksS_append (i a n m : Nat) : marksS i a n ++ marksS i (a + n) m = marksS i a (n + m) := by
  apply List.ext_getElem?
  intro j
  rcases Nat.lt_or_ge j n with h | h
  · rw [List.getElem?_append_left (by rw [marksS_length]; exact h), marksS_get h, marksS_get (by omega)]
  · rw [List.getElem?_append_right (by rw [marksS_length]; exact h), marksS_length]
    rcases Nat.lt_or_ge j (n + m) with h2 | h2
    · rw [marksS_get (by omega), marksS_get h2]
      congr 3
      omega
    · rw [List.getElem?_eq_none (by rw [marksS_length]; omega), List.getElem?_eq_none (by rw [marksS_length]; omega)]

set_option maxRecDepth 100000 in
set_option maxHeartbeats 2000000 in
theorem smark_any (i a n : Nat) (w : World) (hi1 : i ≤ 1000) (ha : a ≤ 1000000) (hn : n ≤ 1000000) :
    Calls Try.prog 95 #[.int .i64 i, .int .i64 a, .int .i64 n] w fun e w' => ∃ v, e = .returned v ∧ w'.ownsRow w.heap.size 36 2 v n (flatS (marksS i a n)) ∧ Below w.heap.size w w' := by
  obtain ⟨i0, hi, hz0, hz1, hz2⟩ := info_parts hspans_info
  have hiI : (i : Int) ≤ 1000 := by omega
  have haI : (a : Int) ≤ 1000000 := by omega
  have hnI : (n : Int) ≤ 1000000 := by omega
  go_enter Try.func95, Try.ntmps95
  go_wp2_with fail
  go_loopw [7, 8] (fun v k wr => ∃ (j : Nat) (x : Int), j ≤ n ∧ x = (a : Int) + j ∧ k = .int .i64 x ∧ wr.ownsRow w.heap.size 36 2 v j (flatS (marksS i a j)) ∧ Below w.heap.size w wr) (fun _ k _ => n + a - (intOf k).toNat)
  case atStart => exact ⟨0, (a : Int), Nat.zero_le _, by omega, rfl, World.ownsRow_nil _ _ _ _, Below.refl _ _⟩
  case round =>
    obtain ⟨j, x, hj, hx, rfl, hown, hbr⟩ := hrel
    by_cases hlt : j < n
    · have hx0 : 0 ≤ x := by omega
      have hx1 : x ≤ 2000000 := by omega
      have hxl : x < (a : Int) + (n : Int) := by omega
      obtain ⟨c, hc⟩ : ∃ c : Int, c = -1000 * (i : Int) - x - 1 := ⟨_, rfl⟩
      have HMK : Hid (flatS (marksS i a j) ++ [.int .i64 c, .int .i64 0] = flatS (marksS i a (j + 1))) := Lib.hid (by
        rw [marksS_snoc, flatS_append, hc]
        congr 2
        show Value.int .i64 _ = Value.int .i64 (markS i (a + j))
        unfold markS
        congr 1
        omega)
      obtain ⟨p, hp⟩ : ∃ p : Int, p = -1000 * (i : Int) := ⟨_, rfl⟩
      have e1 : IntKind.i64.wrap (-1000 * (i : Int)) = p := by rw [IntKind.wrap_i64, hp]; omega
      have e2 : IntKind.i64.wrap (p - x) = p - x := by rw [IntKind.wrap_i64]; omega
      have e3 : IntKind.i64.wrap (p - x - 1) = c := by rw [IntKind.wrap_i64, hc]; omega
      have HX := Lib.hid hx
      have HOWN := Lib.hid hown
      clear hown hx hc hp
      go_wp2_with (at_builtin; refine wpList_append_lies _ rfl (.tmp 17) (.tmp 24) 33 rfl w.heap.size 36 i0 (.agg #[.int .i64 0, .int .i64 0]) 2 16 Try.underlying33 hi hz0 hz1 hz2 rfl (by omega) _ j _ rfl (HOWN.out.alloc _) ⟨wr.heap.size, 0, none⟩ 1 1 [.int .i64 c, .int .i64 0] rfl rfl ?c1 ?c2 (by omega) (by unfold maxLen; omega) (by omega) (by have := hbr.size; simp; omega) _ rfl ?_)
      case c1 => exact World.news_of_block (heap_alloc_new wr _)
      case c2 => intro u hu; simp at hu; rcases hu with rfl | rfl <;> rfl
      intro g cap w1 hown1 hg1 hor hlt1
      have hb1 : Below w.heap.size w w1 := (hbr.alloc hbr.size _).grown hg1 (by have := hbr.size; simp; omega) (fun k hk => (HOWN.out.lt k hk).1)
      have HB1 := Lib.hid hb1
      rw [HMK.out] at hown1
      have HOW := Lib.hid hown1
      have hx2 : x + 1 ≤ 3000000 := by omega
      clear hown1 hg1 hor hb1 hbr
      go_wp2_with fail
      go_roundw
      case rel => exact ⟨j + 1, x + 1, by omega, by have := HX.out; omega, by go_num, HOW.out, HB1.out⟩
      case measure => have := HX.out; simp [intOf]; omega
    · obtain rfl : j = n := by omega
      have hxl : ¬ x < (a : Int) + (j : Int) := by omega
      have hxl2 : (a : Int) + (j : Int) ≤ x := by omega
      have HOWN := Lib.hid hown
      have HBR := Lib.hid hbr
      clear hown hbr
      go_wp2_with fail
      go_ret
      exact ⟨_, rfl, HOWN.out, HBR.out⟩
end Go.Proofs.Ytkcjiogackkecaa
