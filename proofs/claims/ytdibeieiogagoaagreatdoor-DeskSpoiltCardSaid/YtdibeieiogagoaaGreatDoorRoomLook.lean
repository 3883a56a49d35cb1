/-
  Package room: a sector is taken, how many are free. No statement is proved here.
-/
import Derived.Test.YtdibeieiogagoaaGreatDoorRoomSmall
import Derived.StillTailTactics
import Derived.Deep.DeepCutAuto
import Derived.Deep.CutBlock
namespace Go.Proofs.YtdibeieiogagoaaGreatDoor
open Go.RowKit

theorem bit_lt (j : Nat) (h : j < 8) : 2 ^ j < 256 := by
  rcases eight h with rfl | rfl | rfl | rfl | rfl | rfl | rfl | rfl <;> decide
theorem i8 (i : Nat) : i / 8 * 8 + i % 8 = i := by omega
/-- What a call on a room leaves: that room alone is another one. -/
structure RoomTurns (w w' : World) (g n : Nat) (H : List Int) : Prop where
  room : RoomAt w' g n H
  by_ : w.grownBy w' (some g)

theorem RoomAt.set {w : World} {g n : Nat} {H : List Int} (h : RoomAt w g n H) {i : Nat} (hi : i < n) {b : Nat} (hb : b = byteP (inP H) (i / 8) ||| 2 ^ (i % 8)) : RoomTurns w (w.setCell ⟨g, 1 + i / 8, none⟩ (.int .u8 (b : Int))) g n (putL (i : Int) H) := by
  refine ⟨⟨?_, h.ok.put (by omega) (by omega), h.size⟩, by_put (by_refl _ _) _ _⟩
  have := h.blk.put (1 + i / 8) (.int .u8 (b : Int))
  rw [roomC_put n (inP H) (k := i / 8) (j := i % 8) (by omega) true b (by rw [hb]; exact byteP_set _ _ _ (by omega)), i8, ← inP_put] at this
  exact this
theorem RoomAt.clear {w : World} {g n : Nat} {H : List Int} (h : RoomAt w g n H) {i : Nat} {b : Nat} (hb : b = byteP (inP H) (i / 8) &&& (255 - 2 ^ (i % 8))) : RoomTurns w (w.setCell ⟨g, 1 + i / 8, none⟩ (.int .u8 (b : Int))) g n (dropL (i : Int) H) := by
  refine ⟨⟨?_, h.ok.drop _, h.size⟩, by_put (by_refl _ _) _ _⟩
  have := h.blk.put (1 + i / 8) (.int .u8 (b : Int))
  rw [roomC_put n (inP H) (k := i / 8) (j := i % 8) (by omega) false b (by rw [hb]; exact byteP_clear _ _ _ (by omega)), i8, ← inP_drop] at this
  exact this

set_option maxRecDepth 100000 in
set_option maxHeartbeats 2000000 in
theorem rset_any (i : Nat) {w : World} {g n : Nat} {H : List Int} (h : RoomAt w g n H) (hi : i < n) : Calls Tryz.prog 84 #[.pointer (some ⟨g, 0, none⟩), .int .i64 (i : Int)] w fun e w' => e = .returned (.tuple #[]) ∧ RoomTurns w w' g n (putL (i : Int) H) := by
  have hs := h.size
  have HB := Lib.hid (bit_any i (by omega))
  obtain ⟨k, hk⟩ : ∃ k, k = i / 8 := ⟨_, rfl⟩
  obtain ⟨x, hx⟩ : ∃ x, x = byteP (inP H) (i / 8) := ⟨_, rfl⟩
  obtain ⟨y, hy⟩ : ∃ y, y = 2 ^ (i % 8) := ⟨_, rfl⟩
  obtain ⟨z, hz⟩ : ∃ z, z = x ||| y := ⟨_, rfl⟩
  have hk8 : k < 238 := by omega
  have hq' : (i : Int) / 8 = (k : Int) := by omega
  have hq : (i : Int).tdiv 8 = (k : Int) := by rw [Int.tdiv_eq_ediv_of_nonneg (by omega)]; exact hq'
  have hkI : (k : Int) < 238 := by omega
  have hkw : IntKind.i64.wrap (k : Int) = (k : Int) := by rw [IntKind.wrap_i64]; omega
  have hor : bits .or .u8 (x : Int) (y : Int) = (z : Int) := by
    rw [hz]
    exact u8_or_nat x y (by rw [hx]; exact byteP_lt _ _) (by rw [hy]; exact bit_lt _ (by omega))
  have c1 : w.cell? ⟨g, 1 + k, none⟩ = some (.int .u8 (x : Int)) := by rw [hx, ← hk]; exact h.byte hk8
  have f1 : w.frozen? ⟨g, 1 + k, none⟩ = false := h.blk.frozen _
  have hgl := h.lt
  rw [← hy] at HB
  have HT := Lib.hid (h.set hi (b := z) (by rw [hz, hx, hy]))
  rw [← hk] at HT
  have HW : Hid (∀ W, Calls Tryz.prog 87 #[.int .i64 (i : Int)] W fun e w' => e = .returned (.int .u8 (y : Int)) ∧ w' = W) := HB
  clear hz hy hx h hk hi hs
  go_enter Tryz.func84, Tryz.ntmps84
  go_still_tail 13, (by kernel_rfl)
  still_call (HW.out _)
  repeat still_step
  refine wpStill_nil ?_
  change wpList _ _ _ _ _ w.drew
  go_wp2_with fail
  refine ret_none rfl rfl ⟨rfl, ⟨HT.out.room.blk.drew, HT.out.room.ok, HT.out.room.size⟩, ?_⟩
  exact ⟨HT.out.by_.1, HT.out.by_.2, HT.out.by_.3, HT.out.by_.4, HT.out.by_.5⟩

theorem bitV_zero (b : Bool) (j : Nat) (hj : j < 8) : (((bitV b (2 ^ j) : Nat) : Int) != 0) = b := by
  cases b
  · rfl
  · rcases eight hj with rfl | rfl | rfl | rfl | rfl | rfl | rfl | rfl <;> rfl
set_option maxRecDepth 100000 in
set_option maxHeartbeats 2000000 in
theorem rused_any (i : Int) {w : World} {g n : Nat} {H : List Int} (h : RoomAt w g n H) : Calls Tryz.prog 54 #[.pointer (some ⟨g, 0, none⟩), .int .i64 i] w fun e w' => e = .returned (.bool (decide (i ∈ H))) ∧ ∃ d, w' = w.drewN d := by
  have HH := Lib.hid (fun d => rhas_any i (h.drewN d))
  have hs := h.size
  by_cases hin : 0 ≤ i ∧ i < (n : Int)
  · simp only [decide_eq_true hin] at HH
    obtain ⟨h0, h1⟩ := hin
    obtain ⟨a, rfl⟩ := Int.eq_ofNat_of_zero_le h0
    have HB := Lib.hid (bit_any a (by omega))
    obtain ⟨k, hk⟩ : ∃ k, k = a / 8 := ⟨_, rfl⟩
    obtain ⟨x, hx⟩ : ∃ x, x = byteP (inP H) (a / 8) := ⟨_, rfl⟩
    obtain ⟨y, hy⟩ : ∃ y, y = 2 ^ (a % 8) := ⟨_, rfl⟩
    have hk8 : k < 238 := by omega
    have hq' : (a : Int) / 8 = (k : Int) := by omega
    have hq : (a : Int).tdiv 8 = (k : Int) := by rw [Int.tdiv_eq_ediv_of_nonneg (by omega)]; exact hq'
    have hkI : (k : Int) < 238 := by omega
    have hkw : IntKind.i64.wrap (k : Int) = (k : Int) := by rw [IntKind.wrap_i64]; omega
    obtain ⟨r, hr⟩ : ∃ r, r = decide ((a : Int) ∈ H) := ⟨_, rfl⟩
    obtain ⟨z, hz⟩ : ∃ z, z = x &&& y := ⟨_, rfl⟩
    have hand : bits .and .u8 (x : Int) (y : Int) = (z : Int) := by
      rw [hz]
      exact u8_and_nat x y (by rw [hx]; exact byteP_lt _ _) (by rw [hy]; exact bit_lt _ (by omega))
    have hzr : ((z : Int) != 0) = r := by
      rw [hz, hx, hy, byteP_bit _ _ _ (by omega), i8, bitV_zero _ _ (by omega), hr]
      rfl
    have c1 : w.cell? ⟨g, 1 + k, none⟩ = some (.int .u8 (x : Int)) := by rw [hx, ← hk]; exact h.byte hk8
    have hgl := h.lt
    rw [← hy] at HB
    rw [← hr]
    have HW : Hid (∀ W, Calls Tryz.prog 87 #[.int .i64 (a : Int)] W fun e w' => e = .returned (.int .u8 (y : Int)) ∧ w' = W) := HB
    have HH' : Hid (∀ d : Nat, Calls Tryz.prog 83 #[.pointer (some ⟨g, 0, none⟩), .int .i64 (a : Int)] (w.drewN d) fun e w' => e = .returned (.bool true) ∧ w' = w.drewN d) := HH
    clear hz hy hx h hk hs h0 h1 hr HH HB
    go_enter Tryz.func54, Tryz.ntmps54
    go_wp2_with fail
    go_quiet (first | (go_at_call 87; with_reducible refine Calls.quiet_of_same (HW.out _)) | (go_at_call 83; with_reducible refine Calls.quiet_of_same (HH'.out _)))
    go_wp2_with fail
    go_ret
    exact ⟨rfl, _, rfl⟩
  · simp only [decide_eq_false hin] at HH
    have e : decide (i ∈ H) = false := decide_eq_false fun hm => hin (h.ok.range i hm)
    rw [e]
    clear e hin h hs
    go_enter Tryz.func54, Tryz.ntmps54
    go_wp2_with fail
    go_quiet (first | (go_at_call 83; with_reducible refine Calls.quiet_of_same (HH.out _)))
    go_wp2_with fail
    go_ret
    exact ⟨rfl, _, rfl⟩
theorem rused_none (i : Int) (w : World) : Calls Tryz.prog 54 #[.pointer none, .int .i64 i] w fun e w' => e = .returned (.bool false) ∧ ∃ d, w' = w.drewN d := by
  have HH := Lib.hid (fun d => rhas_none i (w.drewN d))
  go_enter Tryz.func54, Tryz.ntmps54
  go_wp2_with fail
  go_quiet (first | (go_at_call 83; with_reducible refine Calls.quiet_of_same (HH.out _)))
  go_wp2_with fail
  go_ret
  exact ⟨rfl, _, rfl⟩
end Go.Proofs.YtdibeieiogagoaaGreatDoor

namespace Go.Proofs.YtdibeieiogagoaaGreatDoor
open Go.RowKit

def tzT : ByteArray := ⟨#[8, 0, 1, 0, 2, 0, 1, 0, 3, 0, 1, 0, 2, 0, 1, 0, 4, 0, 1, 0, 2, 0, 1, 0, 3, 0, 1, 0, 2, 0, 1, 0, 5, 0, 1, 0, 2, 0, 1, 0, 3, 0, 1, 0, 2, 0, 1, 0, 4, 0, 1, 0, 2, 0, 1, 0, 3, 0, 1, 0, 2, 0, 1, 0, 6, 0, 1, 0, 2, 0, 1, 0, 3, 0, 1, 0, 2, 0, 1, 0, 4, 0, 1, 0, 2, 0, 1, 0, 3, 0, 1, 0, 2, 0, 1, 0, 5, 0, 1, 0, 2, 0, 1, 0, 3, 0, 1, 0, 2, 0, 1, 0, 4, 0, 1, 0, 2, 0, 1, 0, 3, 0, 1, 0, 2, 0, 1, 0, 7, 0, 1, 0, 2, 0, 1, 0, 3, 0, 1, 0, 2, 0, 1, 0, 4, 0, 1, 0, 2, 0, 1, 0, 3, 0, 1, 0, 2, 0, 1, 0, 5, 0, 1, 0, 2, 0, 1, 0, 3, 0, 1, 0, 2, 0, 1, 0, 4, 0, 1, 0, 2, 0, 1, 0, 3, 0, 1, 0, 2, 0, 1, 0, 6, 0, 1, 0, 2, 0, 1, 0, 3, 0, 1, 0, 2, 0, 1, 0, 4, 0, 1, 0, 2, 0, 1, 0, 3, 0, 1, 0, 2, 0, 1, 0, 5, 0, 1, 0, 2, 0, 1, 0, 3, 0, 1, 0, 2, 0, 1, 0, 4, 0, 1, 0, 2, 0, 1, 0, 3, 0, 1, 0, 2, 0, 1, 0]⟩
def popT : ByteArray := ⟨#[0, 1, 1, 2, 1, 2, 2, 3, 1, 2, 2, 3, 2, 3, 3, 4, 1, 2, 2, 3, 2, 3, 3, 4, 2, 3, 3, 4, 3, 4, 4, 5, 1, 2, 2, 3, 2, 3, 3, 4, 2, 3, 3, 4, 3, 4, 4, 5, 2, 3, 3, 4, 3, 4, 4, 5, 3, 4, 4, 5, 4, 5, 5, 6, 1, 2, 2, 3, 2, 3, 3, 4, 2, 3, 3, 4, 3, 4, 4, 5, 2, 3, 3, 4, 3, 4, 4, 5, 3, 4, 4, 5, 4, 5, 5, 6, 2, 3, 3, 4, 3, 4, 4, 5, 3, 4, 4, 5, 4, 5, 5, 6, 3, 4, 4, 5, 4, 5, 5, 6, 4, 5, 5, 6, 5, 6, 6, 7, 1, 2, 2, 3, 2, 3, 3, 4, 2, 3, 3, 4, 3, 4, 4, 5, 2, 3, 3, 4, 3, 4, 4, 5, 3, 4, 4, 5, 4, 5, 5, 6, 2, 3, 3, 4, 3, 4, 4, 5, 3, 4, 4, 5, 4, 5, 5, 6, 3, 4, 4, 5, 4, 5, 5, 6, 4, 5, 5, 6, 5, 6, 6, 7, 2, 3, 3, 4, 3, 4, 4, 5, 3, 4, 4, 5, 4, 5, 5, 6, 3, 4, 4, 5, 4, 5, 5, 6, 4, 5, 5, 6, 5, 6, 6, 7, 3, 4, 4, 5, 4, 5, 5, 6, 4, 5, 5, 6, 5, 6, 6, 7, 4, 5, 5, 6, 5, 6, 6, 7, 5, 6, 6, 7, 6, 7, 7, 8]⟩
theorem tz_table (b0 b1 b2 b3 b4 b5 b6 b7 : Bool) : tzT[255 ^^^ by8 b0 b1 b2 b3 b4 b5 b6 b7]? = some (tz8 (!b0) (!b1) (!b2) (!b3) (!b4) (!b5) (!b6) (!b7)).toUInt8 := by revert b0 b1 b2 b3 b4 b5 b6 b7; decide +kernel
theorem pop_table (b0 b1 b2 b3 b4 b5 b6 b7 : Bool) : popT[by8 b0 b1 b2 b3 b4 b5 b6 b7]? = some (b0.toNat + b1.toNat + b2.toNat + b3.toNat + b4.toNat + b5.toNat + b6.toNat + b7.toNat).toUInt8 := by revert b0 b1 b2 b3 b4 b5 b6 b7; decide +kernel
theorem onesAt_le (P : Nat → Bool) (k : Nat) : onesAt P k ≤ 8 := by
  have : ∀ b0 b1 b2 b3 b4 b5 b6 b7 : Bool, b0.toNat + b1.toNat + b2.toNat + b3.toNat + b4.toNat + b5.toNat + b6.toNat + b7.toNat ≤ 8 := by decide +kernel
  exact this _ _ _ _ _ _ _ _
theorem index_byte (w : World) (s : ByteArray) (j : Nat) (x : UInt8) (h : s[j]? = some x) : (Instr.index 9 (.string s) (.int .u8 (j : Int))).run Tryz.prog w = .ok (.int .u8 (x.toNat : Int)) w := by
  simp [Instr.index, asIntOf, Sem.run_bind, run_underlying Tryz.underlying9, Result.andThen, h]
theorem index_bytes (w : World) (cs : Array Value) (j : Nat) (x : Int) (hj : j < 238) (h : cs[j]? = some (.int .u8 x)) : (Instr.index 121 (.agg cs) (.int .i64 (j : Int))).run Tryz.prog w = .ok (.int .u8 x) w := by
  have hI : ¬ 238 ≤ j := by omega
  simp [Instr.index, asIntOf, Sem.run_bind, run_underlying Tryz.underlying121, Result.andThen, h, hI, go_sem]
theorem exec_index {P : Program} {a : Act} {w : World} {o : Oper} {ty : TypeId} {x y : Operand} {p q v : Value} (ho : o.op = .index ty x y) (hx : a.eval x = p) (hy : a.eval y = q) (hr : (Instr.index ty p q).run P w = .ok v w) : (execOp a.eval o).run P w = .ok (.value v) w := by
  subst hx
  subst hy
  cases o
  simp only at ho
  subst ho
  show Sem.run P (Instr.index ty (a.eval x) (a.eval y) >>= fun r => pure (Next.value r)) w = _
  rw [Sem.run_bind, hr]
  rfl
set_option maxRecDepth 100000 in
theorem tz_any (P : Nat → Bool) (k : Nat) (w : World) : Calls Tryz.prog 88 #[.int .u8 ((255 ^^^ byteP P k : Nat) : Int)] w fun e w' => e = .returned (.int .i64 (freeAt P k : Int)) ∧ w' = w := by
  obtain ⟨x, hx⟩ : ∃ x, x = 255 ^^^ byteP P k := ⟨_, rfl⟩
  obtain ⟨y, hy⟩ : ∃ y, y = freeAt P k := ⟨_, rfl⟩
  have hle := freeAt_le P k
  rw [← hy] at hle
  have HI : Hid (∀ w, (Instr.index 9 (.string tzT) (.int .u8 (x : Int))).run Tryz.prog w = .ok (.int .u8 (y : Int)) w) := Lib.hid (fun w => by
    have := index_byte w tzT x _ (by rw [hx]; exact tz_table _ _ _ _ _ _ _ _)
    rw [this]
    congr 2
    show ((freeAt P k).toUInt8.toNat : Int) = _
    rw [hy, UInt8.toNat_ofNat', Nat.mod_eq_of_lt (by omega)])
  rw [← hx, ← hy]
  clear hx hy
  go_enter Tryz.func88, Tryz.ntmps88
  go_upto_region 1 with fail
  refine wp_region_lit ?_
  refine wpList_value (v := .int .u8 (x : Int)) rfl rfl ?_
  refine wpList_value rfl (exec_index rfl rfl rfl (HI.out _)) ?_
  go_wp2_with fail
  go_ret
  exact ⟨rfl, rfl⟩
end Go.Proofs.YtdibeieiogagoaaGreatDoor

namespace Go.Proofs.YtdibeieiogagoaaGreatDoor
open Go.RowKit

def bytesC (P : Nat → Bool) : Array Value := ((List.range 238).map fun k => Value.int .u8 (byteP P k : Int)).toArray
theorem bytesC_get (P : Nat → Bool) {k : Nat} (hk : k < 238) : (bytesC P)[k]? = some (.int .u8 (byteP P k : Int)) := by
  unfold bytesC
  rw [List.getElem?_toArray, List.getElem?_map, List.getElem?_range hk]
  rfl
theorem bytesC_size (P : Nat → Bool) : (bytesC P).size = 238 := by simp [bytesC]
theorem bytes_agg (w : World) : (isAgg 121).run Tryz.prog w = .ok true w := by kernel_rfl
theorem bytes_size (w : World) : (sizeOf 121).run Tryz.prog w = .ok 238 w := by kernel_rfl
theorem RoomAt.load {w : World} {g n : Nat} {H : List Int} (h : RoomAt w g n H) : (Instr.loadAt 121 (.pointer (some ⟨g, 1, none⟩))).run Tryz.prog w = .ok (.agg (bytesC (inP H))) w :=
  run_load_part h.blk (fun j v hv => by
    have hj : j < 238 := by
      rcases Nat.lt_or_ge j 238 with h' | h'
      · exact h'
      · rw [Array.getElem?_eq_none (by rw [bytesC_size]; exact h')] at hv; cases hv
    rw [bytesC_get _ hj] at hv
    rw [roomC_byte _ _ hj]
    exact hv) bytes_agg (fun w => by rw [bytesC_size]; exact bytes_size w)

theorem least_ex {n : Nat} {H : List Int} (ho : HOk n H) : ∃ k, Least H k := by
  have : ∀ m : Nat, (∀ i : Nat, i < m → (i : Int) ∈ H) ∨ ∃ k, Least H k := by
    intro m
    induction m with
    | zero => exact .inl fun i hi => by omega
    | succ m ih =>
      rcases ih with h | h
      · by_cases hm : (m : Int) ∈ H
        · refine .inl fun i hi => ?_
          rcases Nat.lt_or_ge i m with h' | h'
          · exact h i h'
          · obtain rfl : i = m := by omega
            exact hm
        · exact .inr ⟨m, h, hm⟩
      · exact .inr h
  rcases this (n + 1) with h | h
  · have := ho.range _ (h n (by omega))
    omega
  · exact h
theorem least_at {n : Nat} {H : List Int} {k j : Nat} (hk : Least H k) (hlt : freeAt (inP H) j < 8) (hin : j * 8 + freeAt (inP H) j < n) (hf : ∀ i, i < j → freeAt (inP H) i = 8 ∨ n ≤ i * 8 + freeAt (inP H) i) : k = j * 8 + freeAt (inP H) j := by
  refine hk.one (Least.byte (fun i hi => ?_) hlt)
  rcases hf i hi with h | h
  · exact h
  · have := freeAt_le (inP H) i
    omega
theorem least_end {n : Nat} {H : List Int} {k : Nat} (ho : HOk n H) (hk : Least H k) (hn : n ≤ 1900) (hf : ∀ i, i < 238 → freeAt (inP H) i = 8 ∨ n ≤ i * 8 + freeAt (inP H) i) : k = n := by
  have h1 := hk.le ho
  rcases Nat.lt_or_ge k n with h | h
  · have h2 : ¬ (k % 8 < freeAt (inP H) (k / 8)) := fun h2 => by
      have := (freeAt_spec (inP H) (k / 8)).1 (k % 8) h2
      rw [i8] at this
      exact hk.not ((inP_iff _ _).1 this)
    rcases hf (k / 8) (by omega) with h3 | h3 <;> omega
  · omega

set_option maxRecDepth 100000 in
set_option maxHeartbeats 4000000 in
theorem rtake_any {w : World} {g n : Nat} {H : List Int} (h : RoomAt w g n H) {k : Nat} (hk : Least H k) : Calls Tryz.prog 55 #[.pointer (some ⟨g, 0, none⟩)] w fun e w' =>
    (k < n ∧ e = .returned (.tuple #[.int .i64 (k : Int), .int .i64 0]) ∧ RoomTurns w w' g n (putL (k : Int) H)) ∨ (k = n ∧ e = .returned (.tuple #[.int .i64 0, .int .i64 20]) ∧ w' = w) := by
  have hs := h.size
  have HR := Lib.hid h
  have HK := Lib.hid hk
  obtain ⟨P, hP⟩ : ∃ P, P = inP H := ⟨_, rfl⟩
  have HL := Lib.hid h.load
  rw [← hP] at HL
  obtain ⟨C, hC⟩ : ∃ C, C = bytesC P := ⟨_, rfl⟩
  rw [← hC] at HL
  have HIX : Hid (∀ (w : World) (j : Nat), j < 238 → (Instr.index 121 (.agg C) (.int .i64 (j : Int))).run Tryz.prog w = .ok (.int .u8 (byteP P j : Int)) w) := Lib.hid (fun w j hj => index_bytes w C j _ hj (by rw [hC]; exact bytesC_get P hj))
  have HC : Hid (∀ (j : Nat) (w : World), Calls Tryz.prog 88 #[.int .u8 ((255 ^^^ byteP P j : Nat) : Int)] w fun e w' => e = .returned (.int .i64 (freeAt P j : Int)) ∧ w' = w) := Lib.hid (fun j w => tz_any P j w)
  have hgl := h.lt
  have HPP := Lib.hid hP
  clear h hP hC hk
  go_enter Tryz.func55, Tryz.ntmps55
  go_upto_region 3 with fail
  refine wp_region_lit ?_
  refine wpList_value (v := .pointer (some ⟨g, 0, none⟩)) rfl rfl ?_
  refine wpList_value (v := .pointer (some ⟨g, 0, none⟩)) rfl rfl ?_
  refine wpList_value (v := .pointer (some ⟨g, 1, none⟩)) rfl rfl ?_
  refine wpList_load rfl rfl rfl HL.out ?_
  go_wp2_with fail
  go_loopw [13] (fun i wr => ∃ (j : Nat), j ≤ 238 ∧ i = .int .i64 j ∧ (∀ i, i < j → freeAt P i = 8 ∨ n ≤ i * 8 + freeAt P i) ∧ wr = w) (fun i _ => 238 - (intOf i).toNat)
  case atStart => exact ⟨0, by omega, rfl, fun i hi => by omega, rfl⟩
  case round =>
    obtain ⟨j, hj, rfl, hf, rfl⟩ := hrel
    have HFF := Lib.hid hf
    clear hf
    by_cases hlt : j < 238
    · have hjI : (j : Int) < 238 := by omega
      go_upto_region 5 with fail
      refine wp_region_lit ?_
      refine wpList_value (v := .int .i64 (j : Int)) rfl rfl ?_
      refine wpList_value rfl (exec_index rfl rfl rfl (HIX.out _ j hlt)) ?_
      obtain ⟨b, hb⟩ : ∃ b, b = byteP P j := ⟨_, rfl⟩
      obtain ⟨f, hfe⟩ : ∃ f, f = freeAt P j := ⟨_, rfl⟩
      obtain ⟨c, hc⟩ : ∃ c, c = 255 ^^^ b := ⟨_, rfl⟩
      have hb8 : b < 256 := by rw [hb]; exact byteP_lt _ _
      have hf8 : f ≤ 8 := by rw [hfe]; exact freeAt_le _ _
      have hxor : bits .xor .u8 IntKind.u8.max (b : Int) = (c : Int) := by
        rw [hc]
        exact u8_xor_nat 255 b (by omega) hb8
      have HTZ : Hid (∀ w, Calls Tryz.prog 88 #[.int .u8 (c : Int)] w fun e w' => e = .returned (.int .i64 (f : Int)) ∧ w' = w) := Lib.hid (fun w => by rw [hc, hb, hfe]; exact HC.out j w)
      have hful : b = 255 ↔ f = 8 := by rw [hb, hfe]; exact full_byte P j
      have HFE := Lib.hid hfe
      rw [← hb]
      have e1 : IntKind.i64.wrap ((j : Int) * 8) = (j : Int) * 8 := IntWalk.i64_in _ (by omega)
      have e2 : IntKind.i64.wrap ((j : Int) * 8 + (f : Int)) = ((j * 8 + f : Nat) : Int) := by rw [IntWalk.i64_in _ (by omega)]; omega
      obtain ⟨t, ht⟩ : ∃ t, t = j * 8 + f := ⟨_, rfl⟩
      rw [← ht] at e2
      have HT := Lib.hid ht
      have HH := Lib.hid (rhas_any (t : Int) HR.out)
      clear hb hfe hc ht
      by_cases hbe : b = 255
      · have hf9 : f = 8 := hful.1 hbe
        have HF9 := Lib.hid hf9
        have hbI : (b : Int) = 255 := by omega
        clear hful hf9 hbe
        rw [hbI] at hxor
        go_wp2_with fail
        refine (HTZ.out _).mono ?_
        rintro e w1 ⟨rfl, rfl⟩
        go_wp2_with fail
        go_roundw
        case rel => exact ⟨j + 1, by omega, by go_num, fun i hi => by
          rcases Nat.lt_or_ge i j with h' | h'
          · exact HFF.out i h'
          · obtain rfl : i = j := by omega
            rw [← HFE.out]
            exact .inl HF9.out, by first | rfl | trivial⟩
        case measure => simp [intOf]; omega
      · have hf9 : f < 8 := by have := mt hful.2 hbe; omega
        have hbI : ¬ (b : Int) = 255 := by omega
        clear hful hbe
        by_cases hin : t < n
        · have hda : decide (0 ≤ (t : Int) ∧ (t : Int) < (n : Int)) = true := decide_eq_true ⟨by omega, by omega⟩
          rw [hda] at HH
          have HKT : Hid (k = t) := Lib.hid (by
            rw [HT.out, HFE.out, HPP.out]
            rw [HT.out] at hin
            have h9 := hf9
            rw [HFE.out, HPP.out] at hin h9
            have := HFF.out
            rw [HPP.out] at this
            exact least_at HK.out h9 hin this)
          have HST := Lib.hid (rset_any t HR.out hin)
          clear hda
          go_wp2_with fail
          refine (HTZ.out _).mono ?_
          rintro e w1 ⟨rfl, rfl⟩
          go_wp2_with fail
          refine HH.out.mono ?_
          rintro e w1 ⟨rfl, rfl⟩
          go_wp2_with fail
          refine HST.out.mono ?_
          rintro e w1 ⟨rfl, hT⟩
          have HTT := Lib.hid hT
          clear hT
          go_wp2_with fail
          go_ret2
          rw [HKT.out]
          exact .inl ⟨hin, rfl, HTT.out⟩
        · have hda : decide (0 ≤ (t : Int) ∧ (t : Int) < (n : Int)) = false := decide_eq_false (fun h => by omega)
          rw [hda] at HH
          clear hda
          go_wp2_with fail
          refine (HTZ.out _).mono ?_
          rintro e w1 ⟨rfl, rfl⟩
          go_wp2_with fail
          refine HH.out.mono ?_
          rintro e w1 ⟨rfl, rfl⟩
          go_wp2_with fail
          go_roundw
          case rel => exact ⟨j + 1, by omega, by go_num, fun i hi => by
            rcases Nat.lt_or_ge i j with h' | h'
            · exact HFF.out i h'
            · obtain rfl : i = j := by omega
              rw [← HFE.out, ← HT.out]
              exact .inr (by omega), by first | rfl | trivial⟩
          case measure => simp [intOf]; omega
    · obtain rfl : j = 238 := by omega
      have HE : Hid (k = n) := Lib.hid (by
        have := HFF.out
        rw [HPP.out] at this
        exact least_end HR.out.ok HK.out hs this)
      go_wp2_with fail
      go_ret2
      exact .inr ⟨HE.out, rfl, rfl⟩
theorem rtake_none (w : World) : Calls Tryz.prog 55 #[.pointer none] w fun e w' => e = .returned (.tuple #[.int .i64 0, .int .i64 1]) ∧ w' = w := by
  go_enter Tryz.func55, Tryz.ntmps55
  go_wp2_with fail
  go_ret2
  exact ⟨rfl, rfl⟩
end Go.Proofs.YtdibeieiogagoaaGreatDoor
