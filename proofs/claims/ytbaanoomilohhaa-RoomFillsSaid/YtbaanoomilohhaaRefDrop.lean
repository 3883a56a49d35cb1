/-
  The document's own Among and Drop: is a number there, all but one. No statement is proved here.
-/
import Derived.Test.YtbaanoomilohhaaRoomMake
namespace Go.Proofs.Ytbaanoomilohhaa
open Go.RowKit

set_option maxRecDepth 100000 in
set_option maxHeartbeats 2000000 in
theorem ramong_any (x : Int) (A : Option Addr) (c n : Nat) (l : List Int) (w : World) (hn : l.length = n) (hx : Ints w w.heap.size A l) (hb : n ≤ 1000000) :
    Calls Try.prog 8 #[.slice A n c, .int .i64 x] w fun e w' => e = .returned (.bool (decide (x ∈ l))) ∧ w' = w := by
  have HX := Lib.hid hx
  have HM := Lib.hid hn
  clear hx hn
  go_enter Try.func8, Try.ntmps8
  go_wp2_with fail
  go_loopw [5] (fun i wr => ∃ (j : Nat), j ≤ n ∧ i = .int .i64 j ∧ x ∉ l.take j ∧ wr = w) (fun i _ => n - (intOf i).toNat)
  case atStart => exact ⟨0, Nat.zero_le _, rfl, by simp, rfl⟩
  case round =>
    obtain ⟨j, hj, rfl, hno, rfl⟩ := hrel
    have HNO := Lib.hid hno
    clear hno
    by_cases hlt : j < n
    · have hjl : j < l.length := by rw [HM.out]; exact hlt
      obtain ⟨b, off, hA, hbB, hc⟩ := HX.out (by omega)
      obtain ⟨y, hy⟩ : ∃ y, y = l[j] := ⟨_, rfl⟩
      have hyj : l[j]? = some y := by rw [hy]; exact List.getElem?_eq_getElem hjl
      have E2 : Hid (l.take (j + 1) = l.take j ++ [y]) := Lib.hid (by rw [List.take_add_one, hyj]; rfl)
      have HYM := Lib.hid (List.mem_of_getElem? hyj)
      have d0 := hc j y hyj
      subst hA
      have hjI : (j : Int) < (n : Int) := by omega
      clear hy hyj hc hjl
      by_cases hxy : y = x
      · subst hxy
        go_wp2_with fail
        go_ret
        exact ⟨by rw [decide_eq_true HYM.out]; rfl, rfl⟩
      · have HNE := Lib.hid hxy
        go_wp2_with fail
        go_roundw
        case rel =>
          refine ⟨j + 1, by omega, by go_num, fun h => ?_, by first | rfl | trivial⟩
          rw [E2.out] at h
          rcases List.mem_append.1 h with h | h
          · exact HNO.out h
          · exact HNE.out (List.mem_singleton.1 h).symm
        case measure => simp [intOf]; omega
    · obtain rfl : j = n := by omega
      have htk : l.take j = l := List.take_of_length_le (by rw [HM.out]; exact Nat.le_refl _)
      rw [htk] at HNO
      clear htk
      go_wp2_with fail
      go_ret
      exact ⟨by rw [decide_eq_false HNO.out]; rfl, rfl⟩

end Go.Proofs.Ytbaanoomilohhaa
