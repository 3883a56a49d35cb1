/-
  Package room: a sector is set, asked for; the tables of a byte's zeros and ones. No statement is proved here.
-/
import Derived.Test.YtbaanoomilohhaaRoomSmall
import Derived.StillTailTactics
namespace Go.Proofs.Ytbaanoomilohhaa
open Go.RowKit

theorem bit_lt (j : Nat) (h : j < 8) : 2 ^ j < 256 := by
  rcases eight h with rfl | rfl | rfl | rfl | rfl | rfl | rfl | rfl <;> decide
theorem i8 (i : Nat) : i / 8 * 8 + i % 8 = i := by omega
/-- What a call on a room leaves: that room alone is another one. -/
structure RoomTurns (w w' : World) (g n : Nat) (H : List Int) : Prop where
  room : RoomAt w' g n H
  by_ : w.grownBy w' (some g)

theorem RoomAt.set {w : World} {g n : Nat} {H : List Int} (h : RoomAt w g n H) {i : Nat} (hi : i < n) {b : Nat} (hb : b = byteP (inP H) (i / 8) ||| 2 ^ (i % 8)) : RoomTurns w (w.setCell ⟨g, 1 + i / 8, none⟩ (.int .u8 (b : Int))) g n (putL (i : Int) H) := by
  refine ⟨⟨?_, h.ok.put (by omega) (by omega), h.size⟩, by_put (by_refl _ _) _ _⟩
  have := h.blk.put (1 + i / 8) (.int .u8 (b : Int))
  rw [roomC_put n (inP H) (k := i / 8) (j := i % 8) (by omega) true b (by rw [hb]; exact byteP_set _ _ _ (by omega)), i8, ← inP_put] at this
  exact this
theorem RoomAt.clear {w : World} {g n : Nat} {H : List Int} (h : RoomAt w g n H) {i : Nat} {b : Nat} (hb : b = byteP (inP H) (i / 8) &&& (255 - 2 ^ (i % 8))) : RoomTurns w (w.setCell ⟨g, 1 + i / 8, none⟩ (.int .u8 (b : Int))) g n (dropL (i : Int) H) := by
  refine ⟨⟨?_, h.ok.drop _, h.size⟩, by_put (by_refl _ _) _ _⟩
  have := h.blk.put (1 + i / 8) (.int .u8 (b : Int))
  rw [roomC_put n (inP H) (k := i / 8) (j := i % 8) (by omega) false b (by rw [hb]; exact byteP_clear _ _ _ (by omega)), i8, ← inP_drop] at this
  exact this

set_option maxRecDepth 100000 in
set_option maxHeartbeats 2000000 in
theorem rset_any (i : Nat) {w : World} {g n : Nat} {H : List Int} (h : RoomAt w g n H) (hi : i < n) : Calls Try.prog 14 #[.pointer (some ⟨g, 0, none⟩), .int .i64 (i : Int)] w fun e w' => e = .returned (.tuple #[]) ∧ RoomTurns w w' g n (putL (i : Int) H) := by
  have hs := h.size
  have HB := Lib.hid (bit_any i (by omega))
  obtain ⟨k, hk⟩ : ∃ k, k = i / 8 := ⟨_, rfl⟩
  obtain ⟨x, hx⟩ : ∃ x, x = byteP (inP H) (i / 8) := ⟨_, rfl⟩
  obtain ⟨y, hy⟩ : ∃ y, y = 2 ^ (i % 8) := ⟨_, rfl⟩
  obtain ⟨z, hz⟩ : ∃ z, z = x ||| y := ⟨_, rfl⟩
  have hk8 : k < 238 := by omega
  have hq' : (i : Int) / 8 = (k : Int) := by omega
  have hq : (i : Int).tdiv 8 = (k : Int) := by rw [Int.tdiv_eq_ediv_of_nonneg (by omega)]; exact hq'
  have hkI : (k : Int) < 238 := by omega
  have hkw : IntKind.i64.wrap (k : Int) = (k : Int) := by rw [IntKind.wrap_i64]; omega
  have hor : bits .or .u8 (x : Int) (y : Int) = (z : Int) := by
    rw [hz]
    exact u8_or_nat x y (by rw [hx]; exact byteP_lt _ _) (by rw [hy]; exact bit_lt _ (by omega))
  have c1 : w.cell? ⟨g, 1 + k, none⟩ = some (.int .u8 (x : Int)) := by rw [hx, ← hk]; exact h.byte hk8
  have f1 : w.frozen? ⟨g, 1 + k, none⟩ = false := h.blk.frozen _
  have hgl := h.lt
  rw [← hy] at HB
  have HT := Lib.hid (h.set hi (b := z) (by rw [hz, hx, hy]))
  rw [← hk] at HT
  have HW : Hid (∀ W, Calls Try.prog 17 #[.int .i64 (i : Int)] W fun e w' => e = .returned (.int .u8 (y : Int)) ∧ w' = W) := HB
  clear hz hy hx h hk hi hs
  go_enter Try.func14, Try.ntmps14
  go_still_tail 13, (by kernel_rfl)
  still_call (HW.out _)
  repeat still_step
  refine wpStill_nil ?_
  change wpList _ _ _ _ _ w.drew
  go_wp2_with fail
  refine ret_none rfl rfl ⟨rfl, ⟨HT.out.room.blk.drew, HT.out.room.ok, HT.out.room.size⟩, ?_⟩
  exact ⟨HT.out.by_.1, HT.out.by_.2, HT.out.by_.3, HT.out.by_.4, HT.out.by_.5⟩

theorem bitV_zero (b : Bool) (j : Nat) (hj : j < 8) : (((bitV b (2 ^ j) : Nat) : Int) != 0) = b := by
  cases b
  · rfl
  · rcases eight hj with rfl | rfl | rfl | rfl | rfl | rfl | rfl | rfl <;> rfl
set_option maxRecDepth 100000 in
set_option maxHeartbeats 2000000 in
theorem rused_any (i : Int) {w : World} {g n : Nat} {H : List Int} (h : RoomAt w g n H) : Calls Try.prog 11 #[.pointer (some ⟨g, 0, none⟩), .int .i64 i] w fun e w' => e = .returned (.bool (decide (i ∈ H))) ∧ ∃ d, w' = w.drewN d := by
  have HH := Lib.hid (fun d => rhas_any i (h.drewN d))
  have hs := h.size
  by_cases hin : 0 ≤ i ∧ i < (n : Int)
  · simp only [decide_eq_true hin] at HH
    obtain ⟨h0, h1⟩ := hin
    obtain ⟨a, rfl⟩ := Int.eq_ofNat_of_zero_le h0
    have HB := Lib.hid (bit_any a (by omega))
    obtain ⟨k, hk⟩ : ∃ k, k = a / 8 := ⟨_, rfl⟩
    obtain ⟨x, hx⟩ : ∃ x, x = byteP (inP H) (a / 8) := ⟨_, rfl⟩
    obtain ⟨y, hy⟩ : ∃ y, y = 2 ^ (a % 8) := ⟨_, rfl⟩
    have hk8 : k < 238 := by omega
    have hq' : (a : Int) / 8 = (k : Int) := by omega
    have hq : (a : Int).tdiv 8 = (k : Int) := by rw [Int.tdiv_eq_ediv_of_nonneg (by omega)]; exact hq'
    have hkI : (k : Int) < 238 := by omega
    have hkw : IntKind.i64.wrap (k : Int) = (k : Int) := by rw [IntKind.wrap_i64]; omega
    obtain ⟨r, hr⟩ : ∃ r, r = decide ((a : Int) ∈ H) := ⟨_, rfl⟩
    obtain ⟨z, hz⟩ : ∃ z, z = x &&& y := ⟨_, rfl⟩
    have hand : bits .and .u8 (x : Int) (y : Int) = (z : Int) := by
      rw [hz]
      exact u8_and_nat x y (by rw [hx]; exact byteP_lt _ _) (by rw [hy]; exact bit_lt _ (by omega))
    have hzr : ((z : Int) != 0) = r := by
      rw [hz, hx, hy, byteP_bit _ _ _ (by omega), i8, bitV_zero _ _ (by omega), hr]
      rfl
    have c1 : w.cell? ⟨g, 1 + k, none⟩ = some (.int .u8 (x : Int)) := by rw [hx, ← hk]; exact h.byte hk8
    have hgl := h.lt
    rw [← hy] at HB
    rw [← hr]
    have HW : Hid (∀ W, Calls Try.prog 17 #[.int .i64 (a : Int)] W fun e w' => e = .returned (.int .u8 (y : Int)) ∧ w' = W) := HB
    have HH' : Hid (∀ d : Nat, Calls Try.prog 13 #[.pointer (some ⟨g, 0, none⟩), .int .i64 (a : Int)] (w.drewN d) fun e w' => e = .returned (.bool true) ∧ w' = w.drewN d) := HH
    clear hz hy hx h hk hs h0 h1 hr HH HB
    go_enter Try.func11, Try.ntmps11
    go_wp2_with fail
    go_quiet (first | (go_at_call 17; with_reducible refine Calls.quiet_of_same (HW.out _)) | (go_at_call 13; with_reducible refine Calls.quiet_of_same (HH'.out _)))
    go_wp2_with fail
    go_ret
    exact ⟨rfl, _, rfl⟩
  · simp only [decide_eq_false hin] at HH
    have e : decide (i ∈ H) = false := decide_eq_false fun hm => hin (h.ok.range i hm)
    rw [e]
    clear e hin h hs
    go_enter Try.func11, Try.ntmps11
    go_wp2_with fail
    go_quiet (first | (go_at_call 13; with_reducible refine Calls.quiet_of_same (HH.out _)))
    go_wp2_with fail
    go_ret
    exact ⟨rfl, _, rfl⟩
theorem rused_none (i : Int) (w : World) : Calls Try.prog 11 #[.pointer none, .int .i64 i] w fun e w' => e = .returned (.bool false) ∧ ∃ d, w' = w.drewN d := by
  have HH := Lib.hid (fun d => rhas_none i (w.drewN d))
  go_enter Try.func11, Try.ntmps11
  go_wp2_with fail
  go_quiet (first | (go_at_call 13; with_reducible refine Calls.quiet_of_same (HH.out _)))
  go_wp2_with fail
  go_ret
  exact ⟨rfl, _, rfl⟩
end Go.Proofs.Ytbaanoomilohhaa
