/-
  SHA-256: words turned, the numbers of the rounds: the document's own.
-/
import Derived.Test.YtpliknofjgbfjaaGreatDoorOneSmall
import Derived.Test.YtpliknofjgbfjaaGreatDoorTwoPure
namespace Go.Proofs.YtpliknofjgbfjaaGreatDoor
open Go.RowKit

set_option maxHeartbeats 1000000 in
theorem turn_two (x n : Nat) (w : World) (hx : x < 4294967296) (hn : n = 7 ∨ n = 10 ∨ n = 13 ∨ n = 14 ∨ n = 15 ∨ n = 19 ∨ n = 21 ∨ n = 25 ∨ n = 26 ∨ n = 30) :
    Calls Tryz.prog 54 #[.int .u32 x, .int .i64 n] w fun e w' => e = .returned (.int .u32 (rotl x n)) ∧ ∃ d, w' = w.drewN d := by
  rcases hn with rfl | rfl | rfl | rfl | rfl | rfl | rfl | rfl | rfl | rfl
  · go_enter Tryz.func54, Tryz.ntmps54
    go_wp2_with fail
    go_quiet (fail)
    go_wp2
    go_ret
    exact ⟨ret_word (rot_word x 7 128 33554432 128 33554432 rfl rfl hx rfl rfl), _, rfl⟩
  · go_enter Tryz.func54, Tryz.ntmps54
    go_wp2_with fail
    go_quiet (fail)
    go_wp2
    go_ret
    exact ⟨ret_word (rot_word x 10 1024 4194304 1024 4194304 rfl rfl hx rfl rfl), _, rfl⟩
  · go_enter Tryz.func54, Tryz.ntmps54
    go_wp2_with fail
    go_quiet (fail)
    go_wp2
    go_ret
    exact ⟨ret_word (rot_word x 13 8192 524288 8192 524288 rfl rfl hx rfl rfl), _, rfl⟩
  · go_enter Tryz.func54, Tryz.ntmps54
    go_wp2_with fail
    go_quiet (fail)
    go_wp2
    go_ret
    exact ⟨ret_word (rot_word x 14 16384 262144 16384 262144 rfl rfl hx rfl rfl), _, rfl⟩
  · go_enter Tryz.func54, Tryz.ntmps54
    go_wp2_with fail
    go_quiet (fail)
    go_wp2
    go_ret
    exact ⟨ret_word (rot_word x 15 32768 131072 32768 131072 rfl rfl hx rfl rfl), _, rfl⟩
  · go_enter Tryz.func54, Tryz.ntmps54
    go_wp2_with fail
    go_quiet (fail)
    go_wp2
    go_ret
    exact ⟨ret_word (rot_word x 19 524288 8192 524288 8192 rfl rfl hx rfl rfl), _, rfl⟩
  · go_enter Tryz.func54, Tryz.ntmps54
    go_wp2_with fail
    go_quiet (fail)
    go_wp2
    go_ret
    exact ⟨ret_word (rot_word x 21 2097152 2048 2097152 2048 rfl rfl hx rfl rfl), _, rfl⟩
  · go_enter Tryz.func54, Tryz.ntmps54
    go_wp2_with fail
    go_quiet (fail)
    go_wp2
    go_ret
    exact ⟨ret_word (rot_word x 25 33554432 128 33554432 128 rfl rfl hx rfl rfl), _, rfl⟩
  · go_enter Tryz.func54, Tryz.ntmps54
    go_wp2_with fail
    go_quiet (fail)
    go_wp2
    go_ret
    exact ⟨ret_word (rot_word x 26 67108864 64 67108864 64 rfl rfl hx rfl rfl), _, rfl⟩
  · go_enter Tryz.func54, Tryz.ntmps54
    go_wp2_with fail
    go_quiet (fail)
    go_wp2
    go_ret
    exact ⟨ret_word (rot_word x 30 1073741824 4 1073741824 4 rfl rfl hx rfl rfl), _, rfl⟩

def keyCells : Array Value := (keysL.map fun x : Nat => Value.int .u32 (x : Int)).toArray
theorem keyCells_get {i : Nat} (h : i < 64) : keyCells[i]? = some (.int .u32 ((keysL.getD i 0 : Nat) : Int)) := by
  unfold keyCells
  rw [List.getElem?_toArray, List.getElem?_map, List.getElem?_eq_getElem (by rw [keysL_length]; exact h), List.getD_eq_getElem?_getD, List.getElem?_eq_getElem (by rw [keysL_length]; exact h)]
  rfl
set_option maxRecDepth 100000 in
set_option maxHeartbeats 1000000 in
theorem keys_any (w : World) :
    Calls Tryz.prog 56 #[] w fun e w' => e = .returned (.slice (some ⟨w.heap.size, 0, none⟩) 64 64) ∧ w' = w.alloc (.cells keyCells 66) := by
  go_enter Tryz.func56, Tryz.ntmps56
  go_wp2_with fail
  go_ret
  exact ⟨rfl, rfl⟩
end Go.Proofs.YtpliknofjgbfjaaGreatDoor
