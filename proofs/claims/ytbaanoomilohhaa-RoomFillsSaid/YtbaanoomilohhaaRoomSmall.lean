/-
  Package room's small calls: a room's cells, whether a sector is there, in use; its bit. No statement is proved here.
-/
import Derived.Test.YtbaanoomilohhaaRoomPure
import Derived.Test.YtbaanoomilohhaaRowOps
import Derived.Test.YtbaanoomilohhaaNums
import Derived.Laws.BitsAllLaws
namespace Go.Proofs.Ytbaanoomilohhaa
open Go.RowKit

/-- A room's cells: how many sectors, and a bit for each. -/
def roomL (n : Nat) (P : Nat → Bool) : List Value := .int .i64 (n : Int) :: (List.range 238).map fun k => Value.int .u8 (byteP P k : Int)
def roomC (n : Nat) (P : Nat → Bool) : Array Value := (roomL n P).toArray
theorem roomL_length (n : Nat) (P : Nat → Bool) : (roomL n P).length = 239 := by simp [roomL]
theorem roomC_size (n : Nat) (P : Nat → Bool) : (roomC n P).size = 239 := by simp [roomC, roomL_length]
theorem roomC_zero (n : Nat) (P : Nat → Bool) : (roomC n P)[0]? = some (.int .i64 (n : Int)) := by simp [roomC, roomL]
theorem roomC_byte (n : Nat) (P : Nat → Bool) {k : Nat} (hk : k < 238) : (roomC n P)[1 + k]? = some (.int .u8 (byteP P k : Int)) := by
  unfold roomC roomL
  rw [List.getElem?_toArray, Nat.add_comm 1 k, List.getElem?_cons_succ, List.getElem?_map, List.getElem?_range hk]
  rfl
theorem roomC_put (n : Nat) (P : Nat → Bool) {k j : Nat} (hj : j < 8) (v : Bool) (b : Nat) (hb : b = byteP (updP P (k * 8 + j) v) k) : (roomC n P).setIfInBounds (1 + k) (.int .u8 (b : Int)) = roomC n (updP P (k * 8 + j) v) := by
  unfold roomC
  rw [List.setIfInBounds_toArray]
  congr 1
  unfold roomL
  rw [Nat.add_comm 1 k, List.set_cons_succ]
  congr 1
  refine List.ext_getElem? fun t => ?_
  rw [List.getElem?_map]
  by_cases e : k = t
  · subst e
    by_cases ht : k < 238
    · rw [List.getElem?_set_self (by simpa using ht), List.getElem?_range ht, hb]
      rfl
    · rw [List.getElem?_eq_none (by simp; omega), List.getElem?_eq_none (by simp; omega)]
      rfl
  · rw [List.getElem?_set_ne e, List.getElem?_map]
    cases hr : (List.range 238)[t]? with
    | none => rfl
    | some x =>
      have hx : x = t := by
        have ht : t < 238 := by
          rcases Nat.lt_or_ge t 238 with h | h
          · exact h
          · rw [List.getElem?_eq_none (by simpa using h)] at hr; cases hr
        rw [List.getElem?_range ht] at hr
        exact (Option.some.inj hr).symm
      subst hx
      simp only [Option.map_some]
      rw [updP_off (by omega)]

/-- The room in block g: sectors 0 to n less 1, of which those of H are in use. -/
structure RoomAt (w : World) (g n : Nat) (H : List Int) : Prop where
  blk : Blk w g 38 (roomC n (inP H))
  ok : HOk n H
  size : n ≤ 1900
theorem RoomAt.lt {w : World} {g n : Nat} {H : List Int} (h : RoomAt w g n H) : g < w.heap.size := h.blk.lt
theorem RoomAt.below {w w' : World} {g n : Nat} {H : List Int} (h : RoomAt w g n H) (hb : Below w.heap.size w w') : RoomAt w' g n H := ⟨h.blk.below hb h.lt, h.ok, h.size⟩
theorem RoomAt.drewN {w : World} {g n : Nat} {H : List Int} (h : RoomAt w g n H) (d : Nat) : RoomAt (w.drewN d) g n H := ⟨h.blk.drewN d, h.ok, h.size⟩
theorem RoomAt.zero {w : World} {g n : Nat} {H : List Int} (h : RoomAt w g n H) : w.cell? ⟨g, 0, none⟩ = some (.int .i64 (n : Int)) := (h.blk.cell 0).trans (roomC_zero _ _)
theorem RoomAt.byte {w : World} {g n : Nat} {H : List Int} (h : RoomAt w g n H) {k : Nat} (hk : k < 238) : w.cell? ⟨g, 1 + k, none⟩ = some (.int .u8 (byteP (inP H) k : Int)) := (h.blk.cell _).trans (roomC_byte _ _ hk)

set_option maxRecDepth 100000 in
theorem size_any {w : World} {g n : Nat} {H : List Int} (h : RoomAt w g n H) : Calls Try.prog 12 #[.pointer (some ⟨g, 0, none⟩)] w fun e w' => e = .returned (.int .i64 (n : Int)) ∧ w' = w := by
  have c0 := h.zero
  have hl := h.lt
  clear h
  go_enter Try.func12, Try.ntmps12
  go_wp2_with fail
  go_ret
  exact ⟨rfl, rfl⟩
theorem size_none (w : World) : Calls Try.prog 12 #[.pointer none] w fun e w' => e = .returned (.int .i64 0) ∧ w' = w := by
  go_enter Try.func12, Try.ntmps12
  go_wp2_with fail
  go_ret
  exact ⟨rfl, rfl⟩
set_option maxRecDepth 100000 in
theorem rhas_any (i : Int) {w : World} {g n : Nat} {H : List Int} (h : RoomAt w g n H) : Calls Try.prog 13 #[.pointer (some ⟨g, 0, none⟩), .int .i64 i] w fun e w' => e = .returned (.bool (decide (0 ≤ i ∧ i < (n : Int)))) ∧ w' = w := by
  have HS := Lib.hid (size_any h)
  obtain ⟨r, hr⟩ : ∃ r, r = decide (0 ≤ i ∧ i < (n : Int)) := ⟨_, rfl⟩
  rw [← hr]
  have HR := Lib.hid hr
  clear h hr
  by_cases h0 : 0 ≤ i
  · go_enter Try.func13, Try.ntmps13
    go_wp2_with fail
    refine HS.out.mono ?_
    rintro e w1 ⟨rfl, rfl⟩
    by_cases h1 : i < (n : Int)
    · obtain rfl : r = true := by rw [HR.out]; exact decide_eq_true ⟨h0, h1⟩
      go_wp2_with fail
      go_ret
      exact ⟨rfl, rfl⟩
    · obtain rfl : r = false := by rw [HR.out]; exact decide_eq_false (fun h => h1 h.2)
      go_wp2_with fail
      go_ret
      exact ⟨by rw [decide_eq_false (by omega)]; rfl, rfl⟩
  · obtain rfl : r = false := by rw [HR.out]; exact decide_eq_false (fun h => h0 h.1)
    have h0' : i < 0 := by omega
    go_enter Try.func13, Try.ntmps13
    go_wp2_with fail
    go_ret
    exact ⟨rfl, rfl⟩
theorem rhas_none (i : Int) (w : World) : Calls Try.prog 13 #[.pointer none, .int .i64 i] w fun e w' => e = .returned (.bool false) ∧ w' = w := by
  have HS := Lib.hid (size_none w)
  by_cases h0 : 0 ≤ i
  · have h1 : ¬ i < 0 := by omega
    go_enter Try.func13, Try.ntmps13
    go_wp2_with fail
    refine HS.out.mono ?_
    rintro e w1 ⟨rfl, rfl⟩
    go_wp2_with fail
    go_ret
    exact ⟨by rw [decide_eq_false (by omega)]; rfl, rfl⟩
  · have h0' : i < 0 := by omega
    go_enter Try.func13, Try.ntmps13
    go_wp2_with fail
    go_ret
    exact ⟨rfl, rfl⟩
theorem bit_any (i : Nat) (hi : i ≤ 1900) (w : World) : Calls Try.prog 17 #[.int .i64 (i : Int)] w fun e w' => e = .returned (.int .u8 ((2 ^ (i % 8) : Nat) : Int)) ∧ w' = w := by
  obtain ⟨j, hj⟩ : ∃ j, j = i % 8 := ⟨_, rfl⟩
  have hm' : (i : Int) % 8 = (j : Int) := by omega
  have hm : (i : Int).tmod 8 = (j : Int) := by rw [Int.tmod_eq_emod_of_nonneg (by omega)]; exact hm'
  rw [← hj]
  have hj8 : j < 8 := by omega
  clear hj
  go_enter Try.func17, Try.ntmps17
  rcases eight hj8 with rfl | rfl | rfl | rfl | rfl | rfl | rfl | rfl
  all_goals
    go_wp2_with fail
    go_ret
    exact ⟨rfl, rfl⟩
end Go.Proofs.Ytbaanoomilohhaa
