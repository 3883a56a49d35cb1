/-
  Package room: the least free sector, how many are free, all in use. No statement is proved here.
-/
import Derived.Test.YtbaanoomilohhaaRoomSet
import Derived.Deep.DeepCutAuto
import Derived.Deep.CutBlock
namespace Go.Proofs.Ytbaanoomilohhaa
open Go.RowKit

def tzT : ByteArray := ⟨#[8, 0, 1, 0, 2, 0, 1, 0, 3, 0, 1, 0, 2, 0, 1, 0, 4, 0, 1, 0, 2, 0, 1, 0, 3, 0, 1, 0, 2, 0, 1, 0, 5, 0, 1, 0, 2, 0, 1, 0, 3, 0, 1, 0, 2, 0, 1, 0, 4, 0, 1, 0, 2, 0, 1, 0, 3, 0, 1, 0, 2, 0, 1, 0, 6, 0, 1, 0, 2, 0, 1, 0, 3, 0, 1, 0, 2, 0, 1, 0, 4, 0, 1, 0, 2, 0, 1, 0, 3, 0, 1, 0, 2, 0, 1, 0, 5, 0, 1, 0, 2, 0, 1, 0, 3, 0, 1, 0, 2, 0, 1, 0, 4, 0, 1, 0, 2, 0, 1, 0, 3, 0, 1, 0, 2, 0, 1, 0, 7, 0, 1, 0, 2, 0, 1, 0, 3, 0, 1, 0, 2, 0, 1, 0, 4, 0, 1, 0, 2, 0, 1, 0, 3, 0, 1, 0, 2, 0, 1, 0, 5, 0, 1, 0, 2, 0, 1, 0, 3, 0, 1, 0, 2, 0, 1, 0, 4, 0, 1, 0, 2, 0, 1, 0, 3, 0, 1, 0, 2, 0, 1, 0, 6, 0, 1, 0, 2, 0, 1, 0, 3, 0, 1, 0, 2, 0, 1, 0, 4, 0, 1, 0, 2, 0, 1, 0, 3, 0, 1, 0, 2, 0, 1, 0, 5, 0, 1, 0, 2, 0, 1, 0, 3, 0, 1, 0, 2, 0, 1, 0, 4, 0, 1, 0, 2, 0, 1, 0, 3, 0, 1, 0, 2, 0, 1, 0]⟩
def popT : ByteArray := ⟨#[0, 1, 1, 2, 1, 2, 2, 3, 1, 2, 2, 3, 2, 3, 3, 4, 1, 2, 2, 3, 2, 3, 3, 4, 2, 3, 3, 4, 3, 4, 4, 5, 1, 2, 2, 3, 2, 3, 3, 4, 2, 3, 3, 4, 3, 4, 4, 5, 2, 3, 3, 4, 3, 4, 4, 5, 3, 4, 4, 5, 4, 5, 5, 6, 1, 2, 2, 3, 2, 3, 3, 4, 2, 3, 3, 4, 3, 4, 4, 5, 2, 3, 3, 4, 3, 4, 4, 5, 3, 4, 4, 5, 4, 5, 5, 6, 2, 3, 3, 4, 3, 4, 4, 5, 3, 4, 4, 5, 4, 5, 5, 6, 3, 4, 4, 5, 4, 5, 5, 6, 4, 5, 5, 6, 5, 6, 6, 7, 1, 2, 2, 3, 2, 3, 3, 4, 2, 3, 3, 4, 3, 4, 4, 5, 2, 3, 3, 4, 3, 4, 4, 5, 3, 4, 4, 5, 4, 5, 5, 6, 2, 3, 3, 4, 3, 4, 4, 5, 3, 4, 4, 5, 4, 5, 5, 6, 3, 4, 4, 5, 4, 5, 5, 6, 4, 5, 5, 6, 5, 6, 6, 7, 2, 3, 3, 4, 3, 4, 4, 5, 3, 4, 4, 5, 4, 5, 5, 6, 3, 4, 4, 5, 4, 5, 5, 6, 4, 5, 5, 6, 5, 6, 6, 7, 3, 4, 4, 5, 4, 5, 5, 6, 4, 5, 5, 6, 5, 6, 6, 7, 4, 5, 5, 6, 5, 6, 6, 7, 5, 6, 6, 7, 6, 7, 7, 8]⟩
theorem tz_table (b0 b1 b2 b3 b4 b5 b6 b7 : Bool) : tzT[255 ^^^ by8 b0 b1 b2 b3 b4 b5 b6 b7]? = some (tz8 (!b0) (!b1) (!b2) (!b3) (!b4) (!b5) (!b6) (!b7)).toUInt8 := by revert b0 b1 b2 b3 b4 b5 b6 b7; decide +kernel
theorem pop_table (b0 b1 b2 b3 b4 b5 b6 b7 : Bool) : popT[by8 b0 b1 b2 b3 b4 b5 b6 b7]? = some (b0.toNat + b1.toNat + b2.toNat + b3.toNat + b4.toNat + b5.toNat + b6.toNat + b7.toNat).toUInt8 := by revert b0 b1 b2 b3 b4 b5 b6 b7; decide +kernel
theorem onesAt_le (P : Nat → Bool) (k : Nat) : onesAt P k ≤ 8 := by
  have : ∀ b0 b1 b2 b3 b4 b5 b6 b7 : Bool, b0.toNat + b1.toNat + b2.toNat + b3.toNat + b4.toNat + b5.toNat + b6.toNat + b7.toNat ≤ 8 := by decide +kernel
  exact this _ _ _ _ _ _ _ _
theorem index_byte (w : World) (s : ByteArray) (j : Nat) (x : UInt8) (h : s[j]? = some x) : (Instr.index 9 (.string s) (.int .u8 (j : Int))).run Try.prog w = .ok (.int .u8 (x.toNat : Int)) w := by
  simp [Instr.index, asIntOf, Sem.run_bind, run_underlying Try.underlying9, Result.andThen, h]
theorem index_bytes (w : World) (cs : Array Value) (j : Nat) (x : Int) (hj : j < 238) (h : cs[j]? = some (.int .u8 x)) : (Instr.index 36 (.agg cs) (.int .i64 (j : Int))).run Try.prog w = .ok (.int .u8 x) w := by
  have hI : ¬ 238 ≤ j := by omega
  simp [Instr.index, asIntOf, Sem.run_bind, run_underlying Try.underlying36, Result.andThen, h, hI, go_sem]
theorem exec_index {P : Program} {a : Act} {w : World} {o : Oper} {ty : TypeId} {x y : Operand} {p q v : Value} (ho : o.op = .index ty x y) (hx : a.eval x = p) (hy : a.eval y = q) (hr : (Instr.index ty p q).run P w = .ok v w) : (execOp a.eval o).run P w = .ok (.value v) w := by
  subst hx
  subst hy
  cases o
  simp only at ho
  subst ho
  show Sem.run P (Instr.index ty (a.eval x) (a.eval y) >>= fun r => pure (Next.value r)) w = _
  rw [Sem.run_bind, hr]
  rfl
set_option maxRecDepth 100000 in
theorem tz_any (P : Nat → Bool) (k : Nat) (w : World) : Calls Try.prog 15 #[.int .u8 ((255 ^^^ byteP P k : Nat) : Int)] w fun e w' => e = .returned (.int .i64 (freeAt P k : Int)) ∧ w' = w := by
  obtain ⟨x, hx⟩ : ∃ x, x = 255 ^^^ byteP P k := ⟨_, rfl⟩
  obtain ⟨y, hy⟩ : ∃ y, y = freeAt P k := ⟨_, rfl⟩
  have hle := freeAt_le P k
  rw [← hy] at hle
  have HI : Hid (∀ w, (Instr.index 9 (.string tzT) (.int .u8 (x : Int))).run Try.prog w = .ok (.int .u8 (y : Int)) w) := Lib.hid (fun w => by
    have := index_byte w tzT x _ (by rw [hx]; exact tz_table _ _ _ _ _ _ _ _)
    rw [this]
    congr 2
    show ((freeAt P k).toUInt8.toNat : Int) = _
    rw [hy, UInt8.toNat_ofNat', Nat.mod_eq_of_lt (by omega)])
  rw [← hx, ← hy]
  clear hx hy
  go_enter Try.func15, Try.ntmps15
  go_upto_region 1 with fail
  refine wp_region_lit ?_
  refine wpList_value (v := .int .u8 (x : Int)) rfl rfl ?_
  refine wpList_value rfl (exec_index rfl rfl rfl (HI.out _)) ?_
  go_wp2_with fail
  go_ret
  exact ⟨rfl, rfl⟩
set_option maxRecDepth 100000 in
theorem pop_any (P : Nat → Bool) (k : Nat) (w : World) : Calls Try.prog 16 #[.int .u8 (byteP P k : Int)] w fun e w' => e = .returned (.int .i64 (onesAt P k : Int)) ∧ w' = w := by
  obtain ⟨x, hx⟩ : ∃ x, x = byteP P k := ⟨_, rfl⟩
  obtain ⟨y, hy⟩ : ∃ y, y = onesAt P k := ⟨_, rfl⟩
  have hle := onesAt_le P k
  rw [← hy] at hle
  have HI : Hid (∀ w, (Instr.index 9 (.string popT) (.int .u8 (x : Int))).run Try.prog w = .ok (.int .u8 (y : Int)) w) := Lib.hid (fun w => by
    have := index_byte w popT x _ (by rw [hx]; exact pop_table _ _ _ _ _ _ _ _)
    rw [this]
    congr 2
    show ((onesAt P k).toUInt8.toNat : Int) = _
    rw [hy, UInt8.toNat_ofNat', Nat.mod_eq_of_lt (by omega)])
  rw [← hx, ← hy]
  clear hx hy
  go_enter Try.func16, Try.ntmps16
  go_upto_region 1 with fail
  refine wp_region_lit ?_
  refine wpList_value (v := .int .u8 (x : Int)) rfl rfl ?_
  refine wpList_value rfl (exec_index rfl rfl rfl (HI.out _)) ?_
  go_wp2_with fail
  go_ret
  exact ⟨rfl, rfl⟩
end Go.Proofs.Ytbaanoomilohhaa
