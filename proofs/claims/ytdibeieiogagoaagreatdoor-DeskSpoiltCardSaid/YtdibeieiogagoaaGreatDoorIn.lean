/-
  The reader of package bits, call by call: what each answers, and what it leaves in its own block; nothing else that was there turns.
-/
import Derived.WalkKit
import Derived.Lib.Strings
import Derived.Shelf.Strings.BuilderK
import Derived.Shelf.LaysM
import Derived.Shelf.Strconv.Clone
import Derived.Shelf.Strings.Repeat
import Derived.Test.YtdibeieiogagoaaGreatDoorProg
import Derived.Test.YtdibeieiogagoaaGreatDoorRowOps
import Derived.BigQuiet
import Derived.Deep.QuietTactic
import Derived.Outline
namespace Go.Proofs.YtdibeieiogagoaaGreatDoor

/-- What is left, and the error (0: none). -/
structure Rd where
  b : ByteArray
  e : Int

def Rd.fail (s : Rd) (c : Int) : Rd := if s.e = 0 then ⟨.empty, c⟩ else s
/-- n bytes, whether they were there, and the reader behind. -/
def Rd.take (s : Rd) (n : Int) : ByteArray × Bool × Rd :=
  if s.e ≠ 0 then (.empty, false, s)
  else if n < 0 then (.empty, false, ⟨.empty, 1⟩)
  else if (s.b.size : Int) < n then (.empty, false, ⟨.empty, 5⟩)
  else (s.b.extract 0 n.toNat, true, ⟨s.b.extract n.toNat s.b.size, 0⟩)
/-- The number of bytes, the lowest first. -/
def low : List UInt8 → Nat
  | [] => 0
  | x :: l => x.toNat + 256 * low l
def Rd.num (s : Rd) (k : Nat) : Int × Rd :=
  if (s.take k).2.1 = true then
    (if 9223372036854775807 < (low (s.take k).1.data.toList : Int) then (0, ⟨.empty, 6⟩) else ((low (s.take k).1.data.toList : Int), (s.take k).2.2))
  else (0, (s.take k).2.2)
def Rd.raw (s : Rd) (n : Int) : ByteArray × Rd := ((s.take n).1, (s.take n).2.2)
def Rd.text (s : Rd) : ByteArray × Rd := (s.num 2).2.raw (s.num 2).1
def Rd.rest (s : Rd) : Bool := (s.e == 0) && s.b.data.toList.all (· == 0)
def Rd.fin (s : Rd) : Int × Rd := if s.rest = true then (s.e, s) else ((s.fail 6).e, s.fail 6)
/-- Behind an error nothing is left. -/
def Rd.ok (s : Rd) : Prop := s.e ≠ 0 → s.b = .empty

theorem low_lt (l : List UInt8) : low l < 256 ^ l.length := by
  induction l with
  | nil => simp [low]
  | cons x l ih =>
    have := x.toNat_lt
    simp only [low, List.length_cons, Nat.pow_succ]
    omega
theorem low_snoc (l : List UInt8) (x : UInt8) : low (l ++ [x]) = low l + x.toNat * 256 ^ l.length := by
  induction l with
  | nil => simp [low]
  | cons y l ih =>
    simp only [List.cons_append, low, ih, List.length_cons, Nat.pow_succ]
    have : 256 * (x.toNat * 256 ^ l.length) = x.toNat * (256 ^ l.length * 256) := by
      rw [Nat.mul_comm 256, Nat.mul_assoc]
    omega
theorem Rd.ok_fail {s : Rd} (h : s.ok) (c : Int) : (s.fail c).ok := by
  unfold Rd.fail; split
  · intro _; rfl
  · exact h
theorem Rd.ok_take {s : Rd} (h : s.ok) (n : Int) : (s.take n).2.2.ok := by
  unfold Rd.take; split
  · exact h
  · split
    · intro _; rfl
    · split
      · intro _; rfl
      · intro h0; exact absurd rfl h0
theorem Rd.ok_num {s : Rd} (h : s.ok) (k : Nat) : (s.num k).2.ok := by
  unfold Rd.num; split
  · split
    · intro _; rfl
    · exact Rd.ok_take h _
  · exact Rd.ok_take h _
theorem Rd.ok_raw {s : Rd} (h : s.ok) (n : Int) : (s.raw n).2.ok := Rd.ok_take h n
theorem Rd.ok_text {s : Rd} (h : s.ok) : s.text.2.ok := Rd.ok_raw (Rd.ok_num h 2) _
theorem Rd.size_take (s : Rd) (n : Int) : (s.take n).2.2.b.size ≤ s.b.size ∧ (s.take n).1.size ≤ s.b.size := by
  unfold Rd.take; split
  · simp
  · split
    · simp
    · split
      · simp
      · simp
        omega
theorem Rd.size_num (s : Rd) (k : Nat) : (s.num k).2.b.size ≤ s.b.size := by
  unfold Rd.num; split
  · split
    · simp
    · exact (s.size_take k).1
  · exact (s.size_take k).1
theorem Rd.size_raw (s : Rd) (n : Int) : (s.raw n).2.b.size ≤ s.b.size := (s.size_take n).1
theorem Rd.size_text (s : Rd) : s.text.2.b.size ≤ s.b.size := Nat.le_trans (Rd.size_raw _ _) (Rd.size_num _ _)
theorem Rd.num_range (s : Rd) (k : Nat) : 0 ≤ (s.num k).1 ∧ (s.num k).1 ≤ 9223372036854775807 := by
  unfold Rd.num; split
  · split
    · simp
    · exact ⟨by simp, by simp; omega⟩
  · simp

theorem low_or (l : List UInt8) (x : UInt8) (j : Nat) (hl : l.length = j) (hj : j < 8) :
    bits .or .u64 (low l : Int) (IntKind.u64.wrap (IntKind.u64.wrap (x.toNat : Int) * 2 ^ (8 * j))) = (low (l ++ [x]) : Int) := by
  have h1 := low_lt l
  have h2 := x.toNat_lt
  rw [hl] at h1
  have hp : (256 : Nat) ^ j = 2 ^ (8 * j) := by rw [Nat.pow_mul]
  rw [low_snoc, hl, hp]
  rw [hp] at h1
  have h3 : x.toNat * 2 ^ (8 * j) < 18446744073709551616 := by
    have : x.toNat * 2 ^ (8 * j) < 2 ^ 8 * 2 ^ (8 * j) := Nat.mul_lt_mul_of_pos_right (by omega) (Nat.pow_pos (by omega))
    rw [← Nat.pow_add] at this
    exact Nat.lt_of_lt_of_le this (Nat.pow_le_pow_right (by omega) (show 8 + 8 * j ≤ 64 by omega))
  have h4 : low l < 18446744073709551616 := Nat.lt_of_lt_of_le h1 (Nat.pow_le_pow_right (by omega) (show 8 * j ≤ 64 by omega))
  have e1 : IntKind.u64.wrap (x.toNat : Int) = (x.toNat : Int) := IntWalk.u64_in _ (by omega)
  have e2 : ((x.toNat : Int) * 2 ^ (8 * j)) = ((x.toNat * 2 ^ (8 * j) : Nat) : Int) := by simp
  rw [e1, e2, IntWalk.u64_in _ (by omega), u64_or_nat _ _ h4 h3, Nat.or_comm, nat_join (8 * j) _ _ (Nat.mul_mod_left _ _) h1]
  congr 1
  omega
theorem Rd.take_yes {s : Rd} {n : Int} (h : (s.take n).2.1 = true) : s.e = 0 ∧ 0 ≤ n ∧ n ≤ (s.b.size : Int) ∧ (s.take n).1 = s.b.extract 0 n.toNat ∧ (s.take n).2.2 = ⟨s.b.extract n.toNat s.b.size, 0⟩ := by
  unfold Rd.take at h ⊢
  split at h
  · cases h
  · rename_i h0
    split at h
    · cases h
    · rename_i h1
      split at h
      · cases h
      · rename_i h2
        simp only [h0, h1, h2, if_false]
        refine ⟨by simpa using h0, by omega, by omega, ?_, ?_⟩ <;> simp
theorem Rd.take_size {s : Rd} {k : Nat} (h : (s.take k).2.1 = true) : (s.take k).1.size = k := by
  obtain ⟨_, _, h2, h3, _⟩ := Rd.take_yes h
  rw [h3]
  simp
  omega
end Go.Proofs.YtdibeieiogagoaaGreatDoor

namespace Go.Proofs.YtdibeieiogagoaaGreatDoor
open Go.Shelf Go.RowKit

def laysM316_ren : Go.Shelf.Ren := ⟨fun | 316 => 116 | n => n, fun | 9 => 9 | 3 => 3 | 4 => 4 | 37 => 90 | 0 => 0 | 127 => 164 | 5 => 5 | n => n, fun | n => n⟩
theorem laysM316 : Go.Proofs.LaysM.n316 Tryz.prog laysM316_ren := {
  mixed := by kernel_rfl
  f316 := Tryz.func116.trans (congrArg some (by kernel_rfl))
  t0 := Tryz.underlying0
  a0 := Tryz.isAgg0
  z0 := Tryz.sizeOf0
  v0 := Tryz.zeroValue0
  t3 := Tryz.underlying3
  a3 := Tryz.isAgg3
  z3 := Tryz.sizeOf3
  v3 := Tryz.zeroValue3
  t4 := Tryz.underlying4
  a4 := Tryz.isAgg4
  z4 := Tryz.sizeOf4
  v4 := Tryz.zeroValue4
  t9 := Tryz.underlying9
  a9 := Tryz.isAgg9
  z9 := Tryz.sizeOf9
  v9 := Tryz.zeroValue9
  t37 := Tryz.underlying90
  a37 := Tryz.isAgg90
  z37 := Tryz.sizeOf90
  v37 := Tryz.zeroValue90
  t127 := Tryz.underlying164
  a127 := Tryz.isAgg164
  z127 := Tryz.sizeOf164
  v127 := Tryz.zeroValue164
  t5 := Tryz.underlying5
  a5 := Tryz.isAgg5
  z5 := Tryz.sizeOf5
  v5 := Tryz.zeroValue5
  i0 := by kernel_rfl
  i3 := by kernel_rfl
  i4 := by kernel_rfl
  i5 := by kernel_rfl
  i9 := by kernel_rfl
  i37 := by kernel_rfl
  i127 := by kernel_rfl }
def lays105_ren : Go.Shelf.Ren := ⟨fun | 105 => 47 | 212 => 75 | 99 => 76 | 165 => 77 | 166 => 78 | 170 => 79 | 169 => 80 | 263 => 117 | 264 => 118 | 206 => 119 | 240 => 120 | 241 => 121 | 276 => 142 | 277 => 143 | n => n, fun | 9 => 9 | 3 => 3 | 4 => 4 | 20 => 20 | 0 => 0 | 46 => 107 | 109 => 108 | 5 => 5 | 72 => 113 | 76 => 117 | 51 => 159 | 146 => 160 | 53 => 126 | 148 => 162 | 70 => 111 | 37 => 90 | 75 => 116 | 127 => 164 | 164 => 185 | 80 => 119 | n => n, fun | n => n⟩
theorem lays105 : Go.Proofs.Lays.n105 Tryz.prog lays105_ren := {
  mixed := by kernel_rfl
  f99 := Tryz.func76.trans (congrArg some (by kernel_rfl))
  f105 := Tryz.func47.trans (congrArg some (by kernel_rfl))
  f165 := Tryz.func77.trans (congrArg some (by kernel_rfl))
  f166 := Tryz.func78.trans (congrArg some (by kernel_rfl))
  f169 := Tryz.func80.trans (congrArg some (by kernel_rfl))
  f170 := Tryz.func79.trans (congrArg some (by kernel_rfl))
  f206 := Tryz.func119.trans (congrArg some (by kernel_rfl))
  f212 := Tryz.func75.trans (congrArg some (by kernel_rfl))
  f240 := Tryz.func120.trans (congrArg some (by kernel_rfl))
  f241 := Tryz.func121.trans (congrArg some (by kernel_rfl))
  f263 := Tryz.func117.trans (congrArg some (by kernel_rfl))
  f264 := Tryz.func118.trans (congrArg some (by kernel_rfl))
  f276 := Tryz.func142.trans (congrArg some (by kernel_rfl))
  f277 := Tryz.func143.trans (congrArg some (by kernel_rfl))
  t0 := Tryz.underlying0
  a0 := Tryz.isAgg0
  z0 := Tryz.sizeOf0
  v0 := Tryz.zeroValue0
  t3 := Tryz.underlying3
  a3 := Tryz.isAgg3
  z3 := Tryz.sizeOf3
  v3 := Tryz.zeroValue3
  t4 := Tryz.underlying4
  a4 := Tryz.isAgg4
  z4 := Tryz.sizeOf4
  v4 := Tryz.zeroValue4
  t5 := Tryz.underlying5
  a5 := Tryz.isAgg5
  z5 := Tryz.sizeOf5
  v5 := Tryz.zeroValue5
  t9 := Tryz.underlying9
  a9 := Tryz.isAgg9
  z9 := Tryz.sizeOf9
  v9 := Tryz.zeroValue9
  t20 := Tryz.underlying20
  a20 := Tryz.isAgg20
  z20 := Tryz.sizeOf20
  v20 := Tryz.zeroValue20
  t37 := Tryz.underlying90
  a37 := Tryz.isAgg90
  z37 := Tryz.sizeOf90
  v37 := Tryz.zeroValue90
  t46 := Tryz.underlying107
  a46 := Tryz.isAgg107
  z46 := Tryz.sizeOf107
  v46 := Tryz.zeroValue107
  t51 := Tryz.underlying159
  a51 := Tryz.isAgg159
  z51 := Tryz.sizeOf159
  v51 := Tryz.zeroValue159
  t53 := Tryz.underlying126
  a53 := Tryz.isAgg126
  z53 := Tryz.sizeOf126
  v53 := Tryz.zeroValue126
  t70 := Tryz.underlying111
  a70 := Tryz.isAgg111
  z70 := Tryz.sizeOf111
  v70 := Tryz.zeroValue111
  t72 := Tryz.underlying113
  a72 := Tryz.isAgg113
  z72 := Tryz.sizeOf113
  v72 := Tryz.zeroValue113
  t75 := Tryz.underlying116
  a75 := Tryz.isAgg116
  z75 := Tryz.sizeOf116
  v75 := Tryz.zeroValue116
  t76 := Tryz.underlying117
  a76 := Tryz.isAgg117
  z76 := Tryz.sizeOf117
  v76 := Tryz.zeroValue117
  t109 := Tryz.underlying108
  a109 := Tryz.isAgg108
  z109 := Tryz.sizeOf108
  v109 := Tryz.zeroValue108
  t127 := Tryz.underlying164
  a127 := Tryz.isAgg164
  z127 := Tryz.sizeOf164
  v127 := Tryz.zeroValue164
  t146 := Tryz.underlying160
  a146 := Tryz.isAgg160
  z146 := Tryz.sizeOf160
  v146 := Tryz.zeroValue160
  t148 := Tryz.underlying162
  a148 := Tryz.isAgg162
  z148 := Tryz.sizeOf162
  v148 := Tryz.zeroValue162
  t164 := Tryz.underlying185
  a164 := Tryz.isAgg185
  z164 := Tryz.sizeOf185
  v164 := Tryz.zeroValue185 }
theorem Builder_Extra_105 : Builder.Extra Tryz.prog lays105_ren := {
  sizeBuilder := by kernel_rfl
  liesBuilder := by kernel_rfl
  t5 := Tryz.underlying5
  a5 := Tryz.isAgg5
  z5 := Tryz.sizeOf5
  v5 := Tryz.zeroValue5
  infoByte := by kernel_rfl
  cellsByte := by kernel_rfl
  sizeByte := by kernel_rfl
  neB5 := by decide }
def layB_ren : Go.Shelf.Ren := ⟨fun | 166 => 78 | 169 => 80 | 240 => 120 | 276 => 142 | n => n, fun | 0 => 0 | 3 => 3 | 4 => 4 | 5 => 5 | 9 => 9 | 20 => 20 | 37 => 90 | 70 => 111 | 72 => 113 | 75 => 116 | 80 => 119 | 127 => 164 | 164 => 185 | n => n, fun | n => n⟩
theorem layB166 : Go.Proofs.Lays.n166 Tryz.prog layB_ren := {
  mixed := by kernel_rfl
  f166 := Tryz.func78.trans (congrArg some (by kernel_rfl))
  f240 := Tryz.func120.trans (congrArg some (by kernel_rfl))
  f276 := Tryz.func142.trans (congrArg some (by kernel_rfl))
  t0 := Tryz.underlying0
  a0 := Tryz.isAgg0
  z0 := Tryz.sizeOf0
  v0 := Tryz.zeroValue0
  t3 := Tryz.underlying3
  a3 := Tryz.isAgg3
  z3 := Tryz.sizeOf3
  v3 := Tryz.zeroValue3
  t4 := Tryz.underlying4
  a4 := Tryz.isAgg4
  z4 := Tryz.sizeOf4
  v4 := Tryz.zeroValue4
  t9 := Tryz.underlying9
  a9 := Tryz.isAgg9
  z9 := Tryz.sizeOf9
  v9 := Tryz.zeroValue9
  t20 := Tryz.underlying20
  a20 := Tryz.isAgg20
  z20 := Tryz.sizeOf20
  v20 := Tryz.zeroValue20
  t37 := Tryz.underlying90
  a37 := Tryz.isAgg90
  z37 := Tryz.sizeOf90
  v37 := Tryz.zeroValue90
  t70 := Tryz.underlying111
  a70 := Tryz.isAgg111
  z70 := Tryz.sizeOf111
  v70 := Tryz.zeroValue111
  t72 := Tryz.underlying113
  a72 := Tryz.isAgg113
  z72 := Tryz.sizeOf113
  v72 := Tryz.zeroValue113
  t75 := Tryz.underlying116
  a75 := Tryz.isAgg116
  z75 := Tryz.sizeOf116
  v75 := Tryz.zeroValue116
  t164 := Tryz.underlying185
  a164 := Tryz.isAgg185
  z164 := Tryz.sizeOf185
  v164 := Tryz.zeroValue185 }
theorem layB169 : Go.Proofs.Lays.n169 Tryz.prog layB_ren := {
  mixed := by kernel_rfl
  f169 := Tryz.func80.trans (congrArg some (by kernel_rfl))
  t0 := Tryz.underlying0
  a0 := Tryz.isAgg0
  z0 := Tryz.sizeOf0
  v0 := Tryz.zeroValue0
  t3 := Tryz.underlying3
  a3 := Tryz.isAgg3
  z3 := Tryz.sizeOf3
  v3 := Tryz.zeroValue3
  t9 := Tryz.underlying9
  a9 := Tryz.isAgg9
  z9 := Tryz.sizeOf9
  v9 := Tryz.zeroValue9
  t37 := Tryz.underlying90
  a37 := Tryz.isAgg90
  z37 := Tryz.sizeOf90
  v37 := Tryz.zeroValue90
  t70 := Tryz.underlying111
  a70 := Tryz.isAgg111
  z70 := Tryz.sizeOf111
  v70 := Tryz.zeroValue111
  t72 := Tryz.underlying113
  a72 := Tryz.isAgg113
  z72 := Tryz.sizeOf113
  v72 := Tryz.zeroValue113
  t127 := Tryz.underlying164
  a127 := Tryz.isAgg164
  z127 := Tryz.sizeOf164
  v127 := Tryz.zeroValue164 }
theorem layB_extra : Builder.Extra Tryz.prog layB_ren := {
  sizeBuilder := by kernel_rfl
  liesBuilder := by kernel_rfl
  t5 := Tryz.underlying5
  a5 := Tryz.isAgg5
  z5 := Tryz.sizeOf5
  v5 := Tryz.zeroValue5
  infoByte := by kernel_rfl
  cellsByte := by kernel_rfl
  sizeByte := by kernel_rfl
  neB5 := by decide }
theorem clone_lite (s : ByteArray) (w : World) (hlim : s.size ≤ 281474976710656) :
    Calls Tryz.prog 116 #[.string s] w fun e w' => e = .returned (.string s) ∧ Below w.heap.size w w' := Any.stringslite_Clone laysM316 s w hlim
theorem repeat_any (s : ByteArray) (c : Nat) (w : World) (hc : c ≤ 9223372036854775807) (hlen : s.size * c ≤ 140737488355328) :
    Calls Tryz.prog 47 #[.string s, .int .i64 c] w fun e w' => e = .returned (.string ⟨(Lib.repeatL s.data.toList c).toArray⟩) ∧ Below w.heap.size w w' := Any.strings_Repeat lays105 Builder_Extra_105 s c w hc hlen
theorem sb_string (B b : Nat) (bs : List Value) (s : ByteArray) (w : World) (h : Lib.IsBuilderF 113 5 B b bs w) (hlen : bs.length + s.size ≤ 140737488355328) (hBw : B ≤ w.heap.size) :
    Calls Tryz.prog 78 #[.pointer (some ⟨b, 0, none⟩), .string s] w fun e w' => e = .returned (.tuple #[.int .i64 s.size, .nilIface]) ∧ (Lib.BuilderAtF 113 5 B b (.pointer (some ⟨b, 0, none⟩)) (bs ++ Lib.strCells s) w' ∧ Below B w w' ∧ Lib.OthersKept 5 (some b) w w') :=
  Any.Builder_WriteString_k layB166 layB_extra B b bs s w h hlen hBw
theorem sb_text (B b : Nat) (l : List UInt8) (w : World) (h : Lib.IsBuilderF 113 5 B b (Lib.byteCells l) w) (hBw : B ≤ w.heap.size) :
    Calls Tryz.prog 80 #[.pointer (some ⟨b, 0, none⟩)] w fun e w' => e = .returned (.string ⟨l.toArray⟩) ∧ (Lib.IsBuilderF 113 5 B b (Lib.byteCells l) w' ∧ Below B w w' ∧ Lib.OthersKept 5 (some b) w w') :=
  Any.Builder_String_any_k layB169 layB_extra B b l w h hBw
end Go.Proofs.YtdibeieiogagoaaGreatDoor

namespace Go.Proofs.YtdibeieiogagoaaGreatDoor
open Go.RowKit

/-- The reader's block: what is left, and the error. -/
def InAt (w : World) (g : Nat) (s : Rd) : Prop := Blk w g 210 #[.string s.b, .int .i64 s.e]

set_option maxHeartbeats 400000 in
/-- In.fail with no error ahead of it. -/
theorem in_fail_new (g : Nat) (s : Rd) (c : Int) (w : World) (h : InAt w g s) (he : s.e = 0) :
    Calls Tryz.prog 181 #[.pointer (some ⟨g, 0, none⟩), .int .i64 c] w fun e w' => e = .returned (.tuple #[]) ∧ InAt w' g ⟨.empty, c⟩ ∧ w.grownBy w' (some g) := by
  obtain ⟨b, e⟩ := s
  simp only at he
  subst he
  have c0 := Blk.cell h 0
  have c1 := Blk.cell h 1
  have f0 := Blk.frozen h 0
  have f1 := Blk.frozen h 1
  have hl := Blk.lt h
  simp at c0 c1
  go_enter Tryz.func181, Tryz.ntmps181
  go_wp2
  go_end0
  exact ⟨rfl, (Blk.put h 0 _).put 1 _, by_put (by_put (by_refl _ _) _ _) _ _⟩

set_option maxHeartbeats 400000 in
theorem take_nil (n : Int) (w : World) :
    Calls Tryz.prog 180 #[.pointer none, .int .i64 n] w fun e w' => e = .returned (.tuple #[.string .empty, .bool false]) ∧ w = w' := by
  go_enter Tryz.func180, Tryz.ntmps180
  go_wp2_with fail
  go_ret2
  exact ⟨rfl, rfl⟩

set_option maxHeartbeats 400000 in
theorem take_any (g : Nat) (s : Rd) (n : Int) (w : World) (h : InAt w g s) (hb : s.b.size ≤ 140737488351232) :
    Calls Tryz.prog 180 #[.pointer (some ⟨g, 0, none⟩), .int .i64 n] w fun e w' =>
      e = .returned (.tuple #[.string (s.take n).1, .bool (s.take n).2.1]) ∧ InAt w' g (s.take n).2.2 ∧ w.grownBy w' (some g) := by
  have H := h
  obtain ⟨b, e⟩ := s
  have c0 := Blk.cell h 0
  have c1 := Blk.cell h 1
  have f0 := Blk.frozen h 0
  have f1 := Blk.frozen h 1
  have hl := Blk.lt h
  simp at c0 c1 hb
  by_cases he : e = 0
  · subst he
    by_cases h0 : n < 0
    · have R : (Rd.mk b 0).take n = (.empty, false, ⟨.empty, 1⟩) := by simp [Rd.take, h0]
      rw [R]
      clear R
      go_enter Tryz.func180, Tryz.ntmps180
      go_wp2_with (go_at_call 181; refine (in_fail_new g _ 1 _ h rfl).mono ?_; rintro e w1 ⟨rfl, h1, hg1⟩)
      go_ret2
      exact ⟨rfl, h1, hg1⟩
    · have h0' : 0 ≤ n := by omega
      by_cases h1 : (b.size : Int) < n
      · have R : (Rd.mk b 0).take n = (.empty, false, ⟨.empty, 5⟩) := by simp [Rd.take, h0, h1]
        rw [R]
        clear R h0
        go_enter Tryz.func180, Tryz.ntmps180
        go_wp2_with (go_at_call 181; refine (in_fail_new g _ 5 _ h rfl).mono ?_; rintro e w1 ⟨rfl, h1, hg1⟩)
        go_ret2
        exact ⟨rfl, h1, hg1⟩
      · have h1' : n ≤ (b.size : Int) := by omega
        have R : (Rd.mk b 0).take n = (b.extract 0 n.toNat, true, ⟨b.extract n.toNat b.size, 0⟩) := by simp [Rd.take, h0, h1]
        rw [R]
        clear R h0 h1
        go_enter Tryz.func180, Tryz.ntmps180
        go_wp2_with fail
        go_ret2
        exact ⟨rfl, Blk.put h 0 _, by_put (by_refl _ _) _ _⟩
  · have R : (Rd.mk b e).take n = (.empty, false, ⟨b, e⟩) := by simp [Rd.take, he]
    rw [R]
    clear R
    have hc : (e != 0) = true := by rw [bne_iff_ne]; exact he
    go_enter Tryz.func180, Tryz.ntmps180
    go_wp2_with fail
    go_ret2
    exact ⟨rfl, h, by_refl _ _⟩

set_option maxHeartbeats 400000 in
theorem number_nil (k : Nat) (w : World) :
    Calls Tryz.prog 168 #[.pointer none, .int .i64 k] w fun e w' => e = .returned (.int .i64 0) ∧ w = w' := by
  go_enter Tryz.func168, Tryz.ntmps168
  go_wp2_with (go_at_call 180; refine (take_nil k _).mono ?_; rintro e w1 ⟨rfl, rfl⟩)
  go_ret
  exact ⟨rfl, rfl⟩


/-- What the bytes up to j+1 come to. -/
theorem low_next {x : ByteArray} {j k : Nat} (hs : x.size = k) (hj : j < k) (hk : k ≤ 8) :
    bits .or .u64 (low (x.data.toList.take j) : Int) (IntKind.u64.wrap (IntKind.u64.wrap ((x[j]'(by omega)).toNat : Int) * 2 ^ (8 * j))) = (low (x.data.toList.take (j + 1)) : Int) := by
  have hl : (x.data.toList.take j).length = j := by
    rw [List.length_take, Array.length_toList]
    have : x.data.size = k := hs
    omega
  rw [low_or _ _ j hl (by omega)]
  congr 2
  rw [List.take_succ_eq_append_getElem (by rw [Array.length_toList]; have : x.data.size = k := hs; omega)]
  rfl

set_option maxHeartbeats 1000000 in
theorem number_any (g : Nat) (s : Rd) (k : Nat) (w : World) (h : InAt w g s) (hb : s.b.size ≤ 140737488351232) (hk : k ≤ 8) :
    Calls Tryz.prog 168 #[.pointer (some ⟨g, 0, none⟩), .int .i64 k] w fun e w' =>
      e = .returned (.int .i64 (s.num k).1) ∧ InAt w' g (s.num k).2 ∧ w.grownBy w' (some g) := by
  by_cases ht : (s.take k).2.1 = true
  · have hsz := Rd.take_size ht
    have h0 : (s.take k).2.2.e = 0 := by rw [(Rd.take_yes ht).2.2.2.2]
    have hL : low (s.take k).1.data.toList < 18446744073709551616 :=
      Nat.lt_of_lt_of_le (low_lt _) (by rw [Array.length_toList]; exact Nat.le_trans (Nat.pow_le_pow_right (by omega) (show (s.take k).1.data.size ≤ 8 from by have : (s.take k).1.data.size = k := hsz; omega)) (by decide))
    have Hnum : Hid (s.num k = (if 9223372036854775807 < (low (s.take k).1.data.toList : Int) then (0, ⟨.empty, 6⟩) else ((low (s.take k).1.data.toList : Int), (s.take k).2.2))) := Lib.hid (by unfold Rd.num; rw [if_pos ht])
    have H0 := Lib.hid h0
    clear h0
    go_enter Tryz.func168, Tryz.ntmps168
    go_wp2_with (go_at_call 180; refine (take_any g s k _ h hb).mono ?_; rintro e w1 ⟨rfl, h1, hg1⟩)
    generalize (s.take k).1 = x at *
    generalize (s.take k).2.2 = s1 at *
    have Hsz := Lib.hid hsz
    have hsz1 : x.size ≤ k := by omega
    have hsz2 : k ≤ x.size := by omega
    clear hsz
    go_loop [7, 18] (fun n i => ∃ j : Nat, j ≤ k ∧ i = .int .i64 j ∧ n = .int .u64 (low (x.data.toList.take j))) (fun _ i => k - (intOf i).toNat)
    case atStart => exact ⟨0, Nat.zero_le _, rfl, rfl⟩
    case round =>
      obtain ⟨j, hj, rfl, rfl⟩ := hrel
      by_cases hlt : j < k
      · go_wp2
        go_round
        case rel => exact ⟨j + 1, by omega, by go_num, by rw [low_next Hsz.out hlt hk]⟩
        case measure => simp [intOf]; omega
      · have hjk : x.data.toList.take j = x.data.toList := List.take_of_length_le (by rw [Array.length_toList]; show x.size ≤ j; omega)
        rw [hjk]
        clear hjk
        generalize hV : low x.data.toList = V at *
        have HV := Lib.hid hV
        clear hV
        by_cases hbig : 9223372036854775807 < (V : Int)
        · go_wp2_with (go_at_call 181; refine (in_fail_new g s1 6 _ h1 H0.out).mono ?_; rintro e w2 ⟨rfl, h2, hg2⟩)
          go_ret
          rw [Hnum.out, if_pos hbig]
          exact ⟨rfl, h2, by_trans hg1 hg2⟩
        · go_wp2_with fail
          go_ret
          rw [Hnum.out, if_neg (by omega)]
          exact ⟨rfl, h1, hg1⟩
  · have Hnum : Hid (s.num k = (0, (s.take k).2.2)) := Lib.hid (by unfold Rd.num; rw [if_neg ht])
    have hf : (s.take k).2.1 = false := by simpa using ht
    go_enter Tryz.func168, Tryz.ntmps168
    go_wp2_with (go_at_call 180; refine (take_any g s k _ h hb).mono ?_; rintro e w1 ⟨rfl, h1, hg1⟩)
    go_ret
    rw [Hnum.out]
    exact ⟨rfl, h1, hg1⟩

set_option maxHeartbeats 400000 in
theorem in_byte (g : Nat) (s : Rd) (w : World) (h : InAt w g s) (hb : s.b.size ≤ 140737488351232) :
    Calls Tryz.prog 140 #[.pointer (some ⟨g, 0, none⟩)] w fun e w' => e = .returned (.int .i64 (s.num 1).1) ∧ InAt w' g (s.num 1).2 ∧ w.grownBy w' (some g) := by
  go_enter Tryz.func140, Tryz.ntmps140
  go_wp2_with (go_at_call 168; refine (number_any g s 1 _ h hb (by omega)).mono ?_; rintro e w1 ⟨rfl, h1, hg1⟩)
  go_ret
  exact ⟨rfl, h1, hg1⟩
set_option maxHeartbeats 400000 in
theorem in_half (g : Nat) (s : Rd) (w : World) (h : InAt w g s) (hb : s.b.size ≤ 140737488351232) :
    Calls Tryz.prog 141 #[.pointer (some ⟨g, 0, none⟩)] w fun e w' => e = .returned (.int .i64 (s.num 2).1) ∧ InAt w' g (s.num 2).2 ∧ w.grownBy w' (some g) := by
  go_enter Tryz.func141, Tryz.ntmps141
  go_wp2_with (go_at_call 168; refine (number_any g s 2 _ h hb (by omega)).mono ?_; rintro e w1 ⟨rfl, h1, hg1⟩)
  go_ret
  exact ⟨rfl, h1, hg1⟩
set_option maxHeartbeats 400000 in
theorem in_word (g : Nat) (s : Rd) (w : World) (h : InAt w g s) (hb : s.b.size ≤ 140737488351232) :
    Calls Tryz.prog 139 #[.pointer (some ⟨g, 0, none⟩)] w fun e w' => e = .returned (.int .i64 (s.num 4).1) ∧ InAt w' g (s.num 4).2 ∧ w.grownBy w' (some g) := by
  go_enter Tryz.func139, Tryz.ntmps139
  go_wp2_with (go_at_call 168; refine (number_any g s 4 _ h hb (by omega)).mono ?_; rintro e w1 ⟨rfl, h1, hg1⟩)
  go_ret
  exact ⟨rfl, h1, hg1⟩
set_option maxHeartbeats 400000 in
theorem in_long (g : Nat) (s : Rd) (w : World) (h : InAt w g s) (hb : s.b.size ≤ 140737488351232) :
    Calls Tryz.prog 167 #[.pointer (some ⟨g, 0, none⟩)] w fun e w' => e = .returned (.int .i64 (s.num 8).1) ∧ InAt w' g (s.num 8).2 ∧ w.grownBy w' (some g) := by
  go_enter Tryz.func167, Tryz.ntmps167
  go_wp2_with (go_at_call 168; refine (number_any g s 8 _ h hb (by omega)).mono ?_; rintro e w1 ⟨rfl, h1, hg1⟩)
  go_ret
  exact ⟨rfl, h1, hg1⟩

set_option maxHeartbeats 400000 in
theorem clone_any (s : ByteArray) (w : World) (hlim : s.size ≤ 281474976710656) :
    Calls Tryz.prog 73 #[.string s] w fun e w' => e = .returned (.string s) ∧ Below w.heap.size w w' := by
  go_enter Tryz.func73, Tryz.ntmps73
  go_wp2_with (go_at_call 116; refine (clone_lite s _ hlim).mono ?_; rintro e w1 ⟨rfl, hb1⟩)
  go_ret
  exact ⟨rfl, hb1⟩

set_option maxHeartbeats 400000 in
theorem on_any (b : ByteArray) (w : World) (hb : b.size ≤ 140737488351232) :
    Calls Tryz.prog 138 #[.string b] w fun e w' => ∃ g, e = .returned (.pointer (some ⟨g, 0, none⟩)) ∧ w.heap.size ≤ g ∧ InAt w' g ⟨b, 0⟩ ∧ Below w.heap.size w w' := by
  go_enter Tryz.func138, Tryz.ntmps138
  go_wp2_with (go_at_call 73; refine (clone_any b _ (by omega)).mono ?_; rintro e w1 ⟨rfl, hb1⟩)
  go_ret
  exact ⟨_, rfl, hb1.size, Blk.new _ _ _, hb1.alloc hb1.size _⟩

/- A reader that is nil. -/
set_option maxHeartbeats 400000 in
theorem byte_nil (w : World) : Calls Tryz.prog 140 #[.pointer none] w fun e w' => e = .returned (.int .i64 0) ∧ w = w' := by
  go_enter Tryz.func140, Tryz.ntmps140
  go_wp2_with (go_at_call 168; refine (number_nil 1 _).mono ?_; rintro e w1 ⟨rfl, rfl⟩)
  go_ret
  exact ⟨rfl, rfl⟩
set_option maxHeartbeats 400000 in
theorem half_nil (w : World) : Calls Tryz.prog 141 #[.pointer none] w fun e w' => e = .returned (.int .i64 0) ∧ w = w' := by
  go_enter Tryz.func141, Tryz.ntmps141
  go_wp2_with (go_at_call 168; refine (number_nil 2 _).mono ?_; rintro e w1 ⟨rfl, rfl⟩)
  go_ret
  exact ⟨rfl, rfl⟩
set_option maxHeartbeats 400000 in
theorem word_nil (w : World) : Calls Tryz.prog 139 #[.pointer none] w fun e w' => e = .returned (.int .i64 0) ∧ w = w' := by
  go_enter Tryz.func139, Tryz.ntmps139
  go_wp2_with (go_at_call 168; refine (number_nil 4 _).mono ?_; rintro e w1 ⟨rfl, rfl⟩)
  go_ret
  exact ⟨rfl, rfl⟩
set_option maxHeartbeats 400000 in
theorem long_nil (w : World) : Calls Tryz.prog 167 #[.pointer none] w fun e w' => e = .returned (.int .i64 0) ∧ w = w' := by
  go_enter Tryz.func167, Tryz.ntmps167
  go_wp2_with (go_at_call 168; refine (number_nil 8 _).mono ?_; rintro e w1 ⟨rfl, rfl⟩)
  go_ret
  exact ⟨rfl, rfl⟩
end Go.Proofs.YtdibeieiogagoaaGreatDoor
