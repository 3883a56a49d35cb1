/-
  Package room's Read, of any bytes. No statement is proved here.
-/
import Derived.Shelf.SlGeneric
import Derived.Shelf.SlSortCmp.NoneTotal
import Derived.Shelf.SlMaps.Clone
import Derived.Ground.SlsfProg
import Derived.Ground.SlmcProg
import Derived.Ground.NamesProg
import Derived.Test.YtnamokngiebicaaGreatDoorWalAlive
import Derived.Test.YtnamokngiebicaaGreatDoorDiskAlive
import Derived.Laws.BitsAllLaws
import Derived.Test.YtnamokngiebicaaGreatDoorWalSmall
import Derived.Test.YtnamokngiebicaaGreatDoorHeadRead
namespace Go.Proofs.YtnamokngiebicaaGreatDoor
open Go.Shelf
def h_sortf_ren : Go.Shelf.Ren := ⟨fun | 6 => 103 | 15 => 137 | 14 => 136 | 28 => 168 | 29 => 169 | 20 => 160 | 21 => 161 | 22 => 162 | 23 => 163 | 24 => 164 | 25 => 165 | 26 => 166 | 27 => 167 | 46 => 187 | 47 => 188 | 48 => 189 | 49 => 190 | 50 => 191 | 57 => 200 | n => n, fun | 22 => 93 | 24 => 109 | 25 => 159 | 3 => 3 | 39 => 139 | 0 => 0 | 53 => 183 | 55 => 147 | 4 => 4 | 46 => 216 | 45 => 215 | 50 => 220 | 5 => 5 | 9 => 9 | 66 => 237 | 70 => 241 | 76 => 251 | 77 => 252 | n => n, fun | n => n⟩
theorem h_sortf : Go.Proofs.SlLaysF0.n6 Tryz.prog h_sortf_ren := {
  mixed := by kernel_rfl
  f6 := ⟨Tryz.f103.name, by decide, Tryz.func103.trans (congrArg some (by kernel_rfl))⟩
  f14 := ⟨Tryz.f136.name, by decide, Tryz.func136.trans (congrArg some (by kernel_rfl))⟩
  f15 := Tryz.func137.trans (congrArg some (by kernel_rfl))
  f20 := ⟨Tryz.f160.name, by decide, Tryz.func160.trans (congrArg some (by kernel_rfl))⟩
  f21 := ⟨Tryz.f161.name, by decide, Tryz.func161.trans (congrArg some (by kernel_rfl))⟩
  f22 := ⟨Tryz.f162.name, by decide, Tryz.func162.trans (congrArg some (by kernel_rfl))⟩
  f23 := ⟨Tryz.f163.name, by decide, Tryz.func163.trans (congrArg some (by kernel_rfl))⟩
  f24 := ⟨Tryz.f164.name, by decide, Tryz.func164.trans (congrArg some (by kernel_rfl))⟩
  f25 := ⟨Tryz.f165.name, by decide, Tryz.func165.trans (congrArg some (by kernel_rfl))⟩
  f26 := ⟨Tryz.f166.name, by decide, Tryz.func166.trans (congrArg some (by kernel_rfl))⟩
  f27 := ⟨Tryz.f167.name, by decide, Tryz.func167.trans (congrArg some (by kernel_rfl))⟩
  f28 := Tryz.func168.trans (congrArg some (by kernel_rfl))
  f29 := Tryz.func169.trans (congrArg some (by kernel_rfl))
  f46 := ⟨Tryz.f187.name, by decide, Tryz.func187.trans (congrArg some (by kernel_rfl))⟩
  f47 := Tryz.func188.trans (congrArg some (by kernel_rfl))
  f48 := Tryz.func189.trans (congrArg some (by kernel_rfl))
  f49 := ⟨Tryz.f190.name, by decide, Tryz.func190.trans (congrArg some (by kernel_rfl))⟩
  f50 := ⟨Tryz.f191.name, by decide, Tryz.func191.trans (congrArg some (by kernel_rfl))⟩
  f57 := ⟨Tryz.f200.name, by decide, Tryz.func200.trans (congrArg some (by kernel_rfl))⟩
  t0 := Tryz.underlying0
  a0 := Tryz.isAgg0
  z0 := Tryz.sizeOf0
  v0 := Tryz.zeroValue0
  t3 := Tryz.underlying3
  a3 := Tryz.isAgg3
  z3 := Tryz.sizeOf3
  v3 := Tryz.zeroValue3
  t4 := Tryz.underlying4
  a4 := Tryz.isAgg4
  z4 := Tryz.sizeOf4
  v4 := Tryz.zeroValue4
  t5 := Tryz.underlying5
  a5 := Tryz.isAgg5
  z5 := Tryz.sizeOf5
  v5 := Tryz.zeroValue5
  t9 := Tryz.underlying9
  a9 := Tryz.isAgg9
  z9 := Tryz.sizeOf9
  v9 := Tryz.zeroValue9
  t22 := Tryz.underlying93
  a22 := Tryz.isAgg93
  z22 := Tryz.sizeOf93
  v22 := Tryz.zeroValue93
  t25 := Tryz.underlying159
  a25 := Tryz.isAgg159
  z25 := Tryz.sizeOf159
  v25 := Tryz.zeroValue159
  t39 := Tryz.underlying139
  a39 := Tryz.isAgg139
  z39 := Tryz.sizeOf139
  v39 := Tryz.zeroValue139
  t45 := Tryz.underlying215
  a45 := Tryz.isAgg215
  z45 := Tryz.sizeOf215
  v45 := Tryz.zeroValue215
  t46 := Tryz.underlying216
  a46 := Tryz.isAgg216
  z46 := Tryz.sizeOf216
  v46 := Tryz.zeroValue216
  t50 := Tryz.underlying220
  a50 := Tryz.isAgg220
  z50 := Tryz.sizeOf220
  v50 := Tryz.zeroValue220
  t53 := Tryz.underlying183
  a53 := Tryz.isAgg183
  z53 := Tryz.sizeOf183
  v53 := Tryz.zeroValue183
  t55 := Tryz.underlying147
  a55 := Tryz.isAgg147
  z55 := Tryz.sizeOf147
  v55 := Tryz.zeroValue147
  t66 := Tryz.underlying237
  a66 := Tryz.isAgg237
  z66 := Tryz.sizeOf237
  v66 := Tryz.zeroValue237
  t70 := Tryz.underlying241
  a70 := Tryz.isAgg241
  z70 := Tryz.sizeOf241
  v70 := Tryz.zeroValue241
  t76 := Tryz.underlying251
  a76 := Tryz.isAgg251
  z76 := Tryz.sizeOf251
  v76 := Tryz.zeroValue251
  t77 := Tryz.underlying252
  a77 := Tryz.isAgg252
  z77 := Tryz.sizeOf252
  v77 := Tryz.zeroValue252 }
def h_clone_ren : Go.Shelf.Ren := ⟨fun | 5 => 66 | 7 => 100 | n => n, fun | 23 => 33 | 25 => 3 | 3 => 109 | 4 => 4 | 20 => 20 | n => n, fun | n => n⟩
theorem h_clone : Go.Proofs.SlLaysW.n5 Tryz.prog h_clone_ren := {
  mixed := by kernel_rfl
  f5 := ⟨Tryz.f66.name, by decide, Tryz.func66.trans (congrArg some (by kernel_rfl))⟩
  f7 := Tryz.func100.trans (congrArg some (by kernel_rfl))
  t4 := Tryz.underlying4
  a4 := Tryz.isAgg4
  z4 := Tryz.sizeOf4
  v4 := Tryz.zeroValue4
  t20 := Tryz.underlying20
  a20 := Tryz.isAgg20
  z20 := Tryz.sizeOf20
  v20 := Tryz.zeroValue20
  t23 := Tryz.underlying33
  a23 := Tryz.isAgg33
  z23 := Tryz.sizeOf33
  v23 := Tryz.zeroValue33 }
end Go.Proofs.YtnamokngiebicaaGreatDoor

namespace Go.Proofs.YtnamokngiebicaaGreatDoor
open Go.RowKit

def bytesP (P : Nat → Bool) (m : Nat) : List UInt8 := (List.range m).map fun k => (byteP P k).toUInt8
theorem bytesP_length (P : Nat → Bool) (m : Nat) : (bytesP P m).length = m := by simp [bytesP]
def roomE (n : Nat) (H : List Int) : List UInt8 := lowBytes 1 6 ++ (lowBytes 2 n ++ bytesP (inP H) 238)
theorem roomE_length (n : Nat) (H : List Int) : (roomE n H).length = 241 := by
  unfold roomE
  rw [List.length_append, List.length_append, lowBytes_length, lowBytes_length, bytesP_length]
def roomT (n : Nat) (H : List Int) : List UInt8 := body 256 (roomE n H) ++ lowBytes 4 (crc (body 256 (roomE n H)))
theorem room_sealed (n : Nat) (H : List Int) : sealB 256 (roomE n H) = (roomT n H, 0) := sealB_ok (by omega) (by omega) (by rw [roomE_length]; omega)
theorem roomBody_length (n : Nat) (H : List Int) : (body 256 (roomE n H)).length = 252 := by
  have := body_length (n := 256) (l := roomE n H) (by rw [roomE_length]; omega)
  omega
theorem roomT_length (n : Nat) (H : List Int) : (roomT n H).length = 256 := by
  unfold roomT
  rw [List.length_append, roomBody_length, lowBytes_length]
/-- Is the bit of a sector set, in a room's bytes? -/
def bitAt (l : List UInt8) (i : Nat) : Bool := (l.getD (3 + i / 8) 0).toNat / 2 ^ (i % 8) % 2 == 1
def bitsH (l : List UInt8) (m : Nat) : List Int := ((List.range m).filter (bitAt l)).map fun i : Nat => (i : Int)
/-- How many sectors the bytes speak of. -/
def sizeN (l : List UInt8) : Nat := low ((l.drop 1).take 2)
/-- What is read out of any bytes: how many sectors, those in use, and the error. -/
def readR (b : List UInt8) : Nat × List Int × Int :=
  if b.length ≠ 256 then (0, [], 5)
  else if (openB b).2 ≠ 0 then (0, [], (openB b).2)
  else if ¬ (1 ≤ sizeN (openB b).1 ∧ sizeN (openB b).1 ≤ 1900) then (0, [], 6)
  else if roomT (sizeN (openB b).1) (bitsH (openB b).1 (sizeN (openB b).1)) = b then (sizeN (openB b).1, bitsH (openB b).1 (sizeN (openB b).1), 0)
  else (0, [], 6)
end Go.Proofs.YtnamokngiebicaaGreatDoor

namespace Go.Proofs.YtnamokngiebicaaGreatDoor
open Go.RowKit

theorem txts_one {w : World} {b : Nat} {s : ByteArray} (h : Blk w b 9 #[.string s]) : Txts w w.heap.size (some ⟨b, 0, none⟩) [s] := by
  intro _
  refine ⟨b, 0, rfl, h.lt, fun j x hx => ?_⟩
  match j, hx with
  | 0, hx =>
    obtain rfl : s = x := by simpa using hx
    exact h.cell 0
theorem arr34 (a : Array Value) (h : a.size = 34) : ∃ x0 x1 x2 x3 x4 x5 x6 x7 x8 x9 x10 x11 x12 x13 x14 x15 x16 x17 x18 x19 x20 x21 x22 x23 x24 x25 x26 x27 x28 x29 x30 x31 x32 x33 : Value, a = #[x0, x1, x2, x3, x4, x5, x6, x7, x8, x9, x10, x11, x12, x13, x14, x15, x16, x17, x18, x19, x20, x21, x22, x23, x24, x25, x26, x27, x28, x29, x30, x31, x32, x33] := by
  obtain ⟨l⟩ := a
  have h : l.length = 34 := h
  obtain ⟨x0, t1, e1, h1⟩ := cons_of h
  obtain ⟨x1, t2, e2, h2⟩ := cons_of h1
  obtain ⟨x2, t3, e3, h3⟩ := cons_of h2
  obtain ⟨x3, t4, e4, h4⟩ := cons_of h3
  obtain ⟨x4, t5, e5, h5⟩ := cons_of h4
  obtain ⟨x5, t6, e6, h6⟩ := cons_of h5
  obtain ⟨x6, t7, e7, h7⟩ := cons_of h6
  obtain ⟨x7, t8, e8, h8⟩ := cons_of h7
  obtain ⟨x8, t9, e9, h9⟩ := cons_of h8
  obtain ⟨x9, t10, e10, h10⟩ := cons_of h9
  obtain ⟨x10, t11, e11, h11⟩ := cons_of h10
  obtain ⟨x11, t12, e12, h12⟩ := cons_of h11
  obtain ⟨x12, t13, e13, h13⟩ := cons_of h12
  obtain ⟨x13, t14, e14, h14⟩ := cons_of h13
  obtain ⟨x14, t15, e15, h15⟩ := cons_of h14
  obtain ⟨x15, t16, e16, h16⟩ := cons_of h15
  obtain ⟨x16, t17, e17, h17⟩ := cons_of h16
  obtain ⟨x17, t18, e18, h18⟩ := cons_of h17
  obtain ⟨x18, t19, e19, h19⟩ := cons_of h18
  obtain ⟨x19, t20, e20, h20⟩ := cons_of h19
  obtain ⟨x20, t21, e21, h21⟩ := cons_of h20
  obtain ⟨x21, t22, e22, h22⟩ := cons_of h21
  obtain ⟨x22, t23, e23, h23⟩ := cons_of h22
  obtain ⟨x23, t24, e24, h24⟩ := cons_of h23
  obtain ⟨x24, t25, e25, h25⟩ := cons_of h24
  obtain ⟨x25, t26, e26, h26⟩ := cons_of h25
  obtain ⟨x26, t27, e27, h27⟩ := cons_of h26
  obtain ⟨x27, t28, e28, h28⟩ := cons_of h27
  obtain ⟨x28, t29, e29, h29⟩ := cons_of h28
  obtain ⟨x29, t30, e30, h30⟩ := cons_of h29
  obtain ⟨x30, t31, e31, h31⟩ := cons_of h30
  obtain ⟨x31, t32, e32, h32⟩ := cons_of h31
  obtain ⟨x32, t33, e33, h33⟩ := cons_of h32
  obtain ⟨x33, t34, e34, h34⟩ := cons_of h33
  obtain rfl := List.eq_nil_of_length_eq_zero h34
  subst e34 e33 e32 e31 e30 e29 e28 e27 e26 e25 e24 e23 e22 e21 e20 e19 e18 e17 e16 e15 e14 e13 e12 e11 e10 e9 e8 e7 e6 e5 e4 e3 e2 e1
  exact ⟨x0, x1, x2, x3, x4, x5, x6, x7, x8, x9, x10, x11, x12, x13, x14, x15, x16, x17, x18, x19, x20, x21, x22, x23, x24, x25, x26, x27, x28, x29, x30, x31, x32, x33, rfl⟩

/-- The writer behind each call. -/
def roomSt (n : Nat) (B : ByteArray) : Nat → Wr
  | 0 | 1 => ⟨[], 0⟩
  | 2 => Wr.nums ⟨[], 0⟩ 1 [6]
  | 3 => (Wr.nums ⟨[], 0⟩ 1 [6]).nums 2 [(n : Int)]
  | _ => ((Wr.nums ⟨[], 0⟩ 1 [6]).nums 2 [(n : Int)]).raws [B]
theorem roomSt_two (n : Nat) (B : ByteArray) : roomSt n B 2 = ⟨lowBytes 1 6, 0⟩ := by
  show Wr.nums ⟨[], 0⟩ 1 [((6 : Nat) : Int)] = _
  rw [nums_ok _ _ _ (fit_one (by omega)), all_one, List.nil_append]
theorem roomSt_three {n : Nat} (hn : n ≤ 1900) (B : ByteArray) : roomSt n B 3 = ⟨lowBytes 1 6 ++ lowBytes 2 n, 0⟩ := by
  show Wr.nums (roomSt n B 2) 2 [(n : Int)] = _
  rw [roomSt_two, nums_ok _ _ _ (fit_one (by omega)), all_one]
theorem roomSt_four {n : Nat} (hn : n ≤ 1900) (H : List Int) : roomSt n (bs (bytesP (inP H) 238)) 4 = ⟨roomE n H, 0⟩ := by
  show Wr.raws (roomSt n (bs (bytesP (inP H) 238)) 3) [bs (bytesP (inP H) 238)] = _
  rw [roomSt_three hn]
  unfold Wr.raws Wr.lay
  rw [if_pos rfl]
  simp [bs_list, roomE]
def rlD (i : Nat) : Option Nat := [10, 11, 12, 13, 14, 15, 16, 17, 18, 19, 20, 21, 22, 23, 24, 25, 26, 9, 27, 28, 4, 5][i]?
theorem rlD_inj (i j s : Nat) (_ : i < 22) (_ : j < 22) (h1 : rlD i = some s) (h2 : rlD j = some s) : i = j := slots_inj (by decide) i j s h1 h2
theorem rlD_lt (i s : Nat) (_ : i < 22) (h : rlD i = some s) : s < 34 := (by decide : ∀ x ∈ [10, 11, 12, 13, 14, 15, 16, 17, 18, 19, 20, 21, 22, 23, 24, 25, 26, 9, 27, 28, 4, 5], x < 34) s (List.mem_of_getElem? h)
def rlC (n : Nat) : Nat := [0, 2, 8, 15, 16].getD n 0
theorem rlC_inj (i j : Nat) (hi : i < 5) (hj : j < 5) (h : rlC i = rlC j) : i = j := (by decide : ∀ i, i < 5 → ∀ j, j < 5 → rlC i = rlC j → i = j) i hi j hj h
theorem rlC_lt : ∀ i, i < 5 → rlC i < 22 := by decide
def rlF (g0 n : Nat) (B Y : ByteArray) : Nat → Value → World → Prop
  | 1, v, w => ∃ b, v = .slice (some ⟨b, 0, none⟩) 1 1 ∧ Blk w b 3 #[.int .i64 6]
  | 3, v, _ => v = .pointer (some ⟨g0, 0, none⟩)
  | 4, v, _ => v = .pointer (some ⟨g0, 0, none⟩)
  | 5, v, _ => v = .pointer (some ⟨g0, 0, none⟩)
  | 6, v, _ => v = .int .i64 (n : Int)
  | 7, v, w => ∃ b, v = .slice (some ⟨b, 0, none⟩) 1 1 ∧ Blk w b 3 #[.int .i64 (n : Int)]
  | 9, v, _ => v = .pointer (some ⟨g0, 0, none⟩)
  | 10, v, _ => v = .pointer (some ⟨g0, 0, none⟩)
  | 11, v, _ => v = .pointer (some ⟨g0, 1, none⟩)
  | 12, v, _ => v = .slice (some ⟨g0, 1, none⟩) 238 238
  | 13, v, _ => v = .string B
  | 14, v, w => ∃ b, v = .slice (some ⟨b, 0, none⟩) 1 1 ∧ Blk w b 9 #[.string B]
  | 16, v, _ => v = .tuple #[.string Y, .int .i64 0]
  | 17, v, _ => v = .tuple #[.string Y, .int .i64 0]
  | 18, v, _ => v = .string Y
  | 19, v, _ => v = .int .i64 0
  | 20, v, _ => v = .string Y
  | 21, v, _ => v = .int .i64 0
  | _, _, _ => True
def rlCh (W0 : World) (n : Nat) (B : ByteArray) : Nat → Value → World → Prop
  | 0, _, w => Below W0.heap.size W0 w
  | 5, _, w => Below W0.heap.size W0 w
  | m, v, w => Below W0.heap.size W0 w ∧ ∃ g, v = .pointer (some ⟨g, 0, none⟩) ∧ W0.heap.size ≤ g ∧ OutAt w g (roomSt n B m)
theorem rlCh_below {W0 : World} {n m : Nat} {B : ByteArray} {v : Value} {w : World} (hc : rlCh W0 n B m v w) : Below W0.heap.size W0 w := by
  unfold rlCh at hc
  split at hc
  · exact hc
  · exact hc
  · exact hc.1
theorem rlCh_kept {W0 : World} {n : Nat} {B : ByteArray} (m : Nat) (v : Value) (w w' : World) (hc : rlCh W0 n B m v w) (hg : w.grownBy w' none) : rlCh W0 n B m v w' := by
  have hb := rlCh_below hc
  have hb' := below_none' hb hg hb.size
  unfold rlCh at hc ⊢
  split at hc
  · exact hb'
  · exact hb'
  · obtain ⟨_, g, hv, hW, ho⟩ := hc
    exact ⟨hb', g, hv, hW, ho.kept' hg⟩
theorem rlF_kept {g0 n : Nat} {B Y : ByteArray} (i : Nat) (v : Value) (w w' : World) (hf : rlF g0 n B Y i v w) (hg : GrownT 170 w w') : rlF g0 n B Y i v w' := by
  unfold rlF at hf ⊢
  split at hf <;> first
    | exact hf
    | (obtain ⟨b, hv, hb⟩ := hf; exact ⟨b, hv, hb.grownT hg (by decide)⟩)
    | trivial

set_option maxRecDepth 100000 in
set_option maxHeartbeats 8000000 in
theorem rlay_room {w : World} {g0 n : Nat} {H : List Int} (h : RoomAt w g0 n H) (h1 : 1 ≤ n) :
    Calls Tryz.prog 70 #[.pointer (some ⟨g0, 0, none⟩)] w fun e w' => e = .returned (.tuple #[.string (bs (roomT n H)), .int .i64 0]) ∧ Below w.heap.size w w' := by
  have hn := h.size
  obtain ⟨B, hB⟩ : ∃ B, B = bs (bytesP (inP H) 238) := ⟨_, rfl⟩
  obtain ⟨Y, hY⟩ : ∃ Y, Y = bs (roomE n H) := ⟨_, rfl⟩
  have S2 := Lib.hid (roomSt_two n B)
  have S3 := Lib.hid (roomSt_three hn B)
  have S4 : Hid (roomSt n B 4 = ⟨roomE n H, 0⟩) := Lib.hid (by rw [hB]; exact roomSt_four hn H)
  have HSZ : Hid (∀ W, Below w.heap.size w W → Calls Tryz.prog 64 #[.pointer (some ⟨g0, 0, none⟩)] W fun e w' => e = .returned (.int .i64 (n : Int)) ∧ w' = W) := Lib.hid (fun W hW => size_any (h.below hW))
  have HG0 : Hid (∀ W, Below w.heap.size w W → g0 < W.heap.size) := Lib.hid (fun W hW => Nat.lt_of_lt_of_le h.lt hW.size)
  have HC0 : Hid (∀ W, Below w.heap.size w W → W.cell? ⟨g0, 0, none⟩ = some (.int .i64 (n : Int))) := Lib.hid (fun W hW => (h.below hW).zero)
  have HCV : Hid (∀ W, Below w.heap.size w W → (convert 101 9 (.slice (some ⟨g0, 1, none⟩) 238 238)).run Tryz.prog W = .ok (.string B) W) := Lib.hid (fun W hW => by
    have hr := h.below hW
    have := run_convert_bytes_back (P := Tryz.prog) W 101 9 5 ⟨g0, 1, none⟩ 238 (bytesP (inP H) 238) Tryz.underlying101 Tryz.underlying5 Tryz.underlying9 (fun i hi => by
      rw [bytesP_length] at hi
      rw [Go.WideShapes.add_plain]
      have e := hr.byte hi
      have e2 : ((bytesP (inP H) 238)[i]'(by rw [bytesP_length]; exact hi)).toNat = byteP (inP H) i := by
        unfold bytesP
        rw [List.getElem_map, List.getElem_range, UInt8.toNat_ofNat', Nat.mod_eq_of_lt (byteP_lt _ _)]
      rw [e2]
      exact e)
    rw [bytesP_length] at this
    rw [hB]
    exact this)
  have HSEAL : Hid (∀ (W : World) (X : Option Addr) (cc : Nat), Txts W W.heap.size X [Y] → Calls Tryz.prog 115 #[.int .i64 256, .slice X 1 cc] W fun e w' => e = .returned (.tuple #[.string (bs (roomT n H)), .int .i64 0]) ∧ Below W.heap.size W w') := Lib.hid (fun W X cc hx => by
    have hfit : TextsFit [Y] := by
      refine ⟨by simp, fun x hx => ?_⟩
      rw [List.mem_singleton.1 hx, hY, bs_size, roomE_length]
      omega
    have := seal_any 256 X 1 cc [Y] W rfl hx hfit
    rw [cats_one, hY, bs_list] at this
    have e : sealV 256 (roomE n H) = .tuple #[.string (bs (roomT n H)), .int .i64 0] := by unfold sealV; rw [room_sealed]; rfl
    rwa [e] at this)
  obtain ⟨T, hT⟩ : ∃ T, T = bs (roomT n H) := ⟨_, rfl⟩
  rw [← hT] at HSEAL ⊢
  have HYE := Lib.hid hY
  have HBE' : Hid (B.size = 238) := Lib.hid (by rw [hB, bs_size, bytesP_length])
  have HR6 : Hid (InRange [6]) := Lib.hid (inRange_one (by omega) (by omega))
  have HRN : Hid (InRange [(n : Int)]) := Lib.hid (inRange_one (by omega) (by omega))
  have HLE : Hid ((roomE n H).length = 241) := Lib.hid (roomE_length n H)
  have hnI : 1 ≤ (n : Int) := by omega
  have hnz : ¬ (n : Int) = 0 := by omega
  have hnz' : ¬ n = 0 := by omega
  clear h hT hY hB hn h1
  go_enter Tryz.func70, Tryz.ntmps70
  go_wp2_with fail
  refine (HSZ.out _ (Below.refl _ _)).mono ?_
  rintro e w1 ⟨rfl, rfl⟩
  go_upto_region 3 with fail
  refine wp_region_chain_v 170 22 rlD 5 rlC (rlF g0 n B Y) (rlCh w1 n B) (by kernel_rfl) (by kernel_rfl) rfl rlD_inj rlD_lt rlC_lt rlC_inj ?hcw rlF_kept rlCh_kept ?h0 ?hloose ?hchain ?hK
  case hcw =>
    intro n hn
    rcases (show n = 0 ∨ n = 1 ∨ n = 2 ∨ n = 3 by omega) with rfl | rfl | rfl | rfl <;> exact of_decide_eq_true (by kernel_rfl)
  case h0 => exact (Below.refl _ _).drew
  case hloose =>
    intro i hi hn y w2 hf hw hch
    obtain ⟨nn, vv, _, hcc⟩ := hch
    have hbe := rlCh_below hcc
    clear hcc
    rcases (show i = 0 ∨ i = 1 ∨ i = 2 ∨ i = 3 ∨ i = 4 ∨ i = 5 ∨ i = 6 ∨ i = 7 ∨ i = 8 ∨ i = 9 ∨ i = 10 ∨ i = 11 ∨ i = 12 ∨ i = 13 ∨ i = 14 ∨ i = 15 ∨ i = 16 ∨ i = 17 ∨ i = 18 ∨ i = 19 ∨ i = 20 ∨ i = 21 by omega) with rfl | rfl | rfl | rfl | rfl | rfl | rfl | rfl | rfl | rfl | rfl | rfl | rfl | rfl | rfl | rfl | rfl | rfl | rfl | rfl | rfl | rfl
    · exact absurd rfl (hn 0 (by omega))
    · clear hf hw hn hbe
      refine wpOp_value (v := .slice (some ⟨w2.heap.size, 0, none⟩) 1 1) (w' := w2.alloc (.cells #[.int .i64 6] 3)) rfl rfl ?_ ⟨_, rfl, (fun h => by cases h), by_alloc (by_refl _ _) _, ?_⟩
      · go_simp
      · exact ⟨_, rfl, Blk.new _ _ _⟩
    · exact absurd rfl (hn 1 (by omega))
    · have e1 : y.tmps[0]?.getD undef = .pointer (some ⟨g0, 0, none⟩) := by rw [hf.2.2 0 (by decide)]; rfl
      clear hf hw hn hbe
      refine wpOp_value (v := .pointer (some ⟨g0, 0, none⟩)) (w' := w2) rfl rfl ?_ ⟨_, rfl, (fun h => by cases h), by_refl _ _, ?_⟩
      · go_simp
      · exact (rfl : (.pointer (some ⟨g0, 0, none⟩) : Value) = _)
    · have e1 : y.tmps[13]?.getD undef = .pointer (some ⟨g0, 0, none⟩) := hw 3 (of_decide_eq_true (by kernel_rfl))
      have hg0 := HG0.out w2 hbe
      clear hf hw hn hbe
      refine wpOp_value (v := .pointer (some ⟨g0, 0, none⟩)) (w' := w2) rfl rfl ?_ ⟨_, rfl, (fun h => by cases h), by_refl _ _, ?_⟩
      · go_simp
      · exact (rfl : (.pointer (some ⟨g0, 0, none⟩) : Value) = _)
    · have e1 : y.tmps[14]?.getD undef = .pointer (some ⟨g0, 0, none⟩) := hw 4 (of_decide_eq_true (by kernel_rfl))
      clear hf hw hn hbe
      refine wpOp_value (v := .pointer (some ⟨g0, 0, none⟩)) (w' := w2) rfl rfl ?_ ⟨_, rfl, (fun h => by cases h), by_refl _ _, ?_⟩
      · go_simp
      · exact (rfl : (.pointer (some ⟨g0, 0, none⟩) : Value) = _)
    · have e1 : y.tmps[15]?.getD undef = .pointer (some ⟨g0, 0, none⟩) := hw 5 (of_decide_eq_true (by kernel_rfl))
      have c0 := HC0.out w2 hbe
      clear hf hw hn hbe
      refine wpOp_value (v := .int .i64 (n : Int)) (w' := w2) rfl rfl ?_ ⟨_, rfl, (fun h => by cases h), by_refl _ _, ?_⟩
      · go_simp
      · exact (rfl : (.int .i64 (n : Int) : Value) = _)
    · have e1 : y.tmps[16]?.getD undef = .int .i64 (n : Int) := hw 6 (of_decide_eq_true (by kernel_rfl))
      clear hf hw hn hbe
      refine wpOp_value (v := .slice (some ⟨w2.heap.size, 0, none⟩) 1 1) (w' := w2.alloc (.cells #[.int .i64 (n : Int)] 3)) rfl rfl ?_ ⟨_, rfl, (fun h => by cases h), by_alloc (by_refl _ _) _, ?_⟩
      · go_simp
      · exact ⟨_, rfl, Blk.new _ _ _⟩
    · exact absurd rfl (hn 2 (by omega))
    · have e1 : y.tmps[0]?.getD undef = .pointer (some ⟨g0, 0, none⟩) := by rw [hf.2.2 0 (by decide)]; rfl
      clear hf hw hn hbe
      refine wpOp_value (v := .pointer (some ⟨g0, 0, none⟩)) (w' := w2) rfl rfl ?_ ⟨_, rfl, (fun h => by cases h), by_refl _ _, ?_⟩
      · go_simp
      · exact (rfl : (.pointer (some ⟨g0, 0, none⟩) : Value) = _)
    · have e1 : y.tmps[19]?.getD undef = .pointer (some ⟨g0, 0, none⟩) := hw 9 (of_decide_eq_true (by kernel_rfl))
      have hg0 := HG0.out w2 hbe
      clear hf hw hn hbe
      refine wpOp_value (v := .pointer (some ⟨g0, 0, none⟩)) (w' := w2) rfl rfl ?_ ⟨_, rfl, (fun h => by cases h), by_refl _ _, ?_⟩
      · go_simp
      · exact (rfl : (.pointer (some ⟨g0, 0, none⟩) : Value) = _)
    · have e1 : y.tmps[20]?.getD undef = .pointer (some ⟨g0, 0, none⟩) := hw 10 (of_decide_eq_true (by kernel_rfl))
      clear hf hw hn hbe
      refine wpOp_value (v := .pointer (some ⟨g0, 1, none⟩)) (w' := w2) rfl rfl ?_ ⟨_, rfl, (fun h => by cases h), by_refl _ _, ?_⟩
      · go_simp
      · exact (rfl : (.pointer (some ⟨g0, 1, none⟩) : Value) = _)
    · have e1 : y.tmps[21]?.getD undef = .pointer (some ⟨g0, 1, none⟩) := hw 11 (of_decide_eq_true (by kernel_rfl))
      clear hf hw hn hbe
      refine wpOp_value (v := .slice (some ⟨g0, 1, none⟩) 238 238) (w' := w2) rfl rfl ?_ ⟨_, rfl, (fun h => by cases h), by_refl _ _, ?_⟩
      · go_simp
      · exact (rfl : (.slice (some ⟨g0, 1, none⟩) 238 238 : Value) = _)
    · have e1 : y.tmps[22]?.getD undef = .slice (some ⟨g0, 1, none⟩) 238 238 := hw 12 (of_decide_eq_true (by kernel_rfl))
      have hcv := HCV.out w2 hbe
      clear hf hw hn hbe
      refine wpOp_value (v := .string B) (w' := w2) rfl rfl ?_ ⟨_, rfl, (fun h => by cases h), by_refl _ _, ?_⟩
      · go_simp
      · exact (rfl : (.string B : Value) = _)
    · have e1 : y.tmps[23]?.getD undef = .string B := hw 13 (of_decide_eq_true (by kernel_rfl))
      clear hf hw hn hbe
      refine wpOp_value (v := .slice (some ⟨w2.heap.size, 0, none⟩) 1 1) (w' := w2.alloc (.cells #[.string B] 9)) rfl rfl ?_ ⟨_, rfl, (fun h => by cases h), by_alloc (by_refl _ _) _, ?_⟩
      · go_simp
      · exact ⟨_, rfl, Blk.new _ _ _⟩
    · exact absurd rfl (hn 3 (by omega))
    · exact absurd rfl (hn 4 (by omega))
    · have e1 : y.tmps[26]?.getD undef = .tuple #[.string Y, .int .i64 0] := hw 16 (of_decide_eq_true (by kernel_rfl))
      clear hf hw hn hbe
      refine wpOp_value (v := .tuple #[.string Y, .int .i64 0]) (w' := w2) rfl rfl ?_ ⟨_, rfl, (fun h => by cases h), by_refl _ _, ?_⟩
      · go_simp
      · exact (rfl : (.tuple #[.string Y, .int .i64 0] : Value) = _)
    · have e1 : y.tmps[9]?.getD undef = .tuple #[.string Y, .int .i64 0] := hw 17 (of_decide_eq_true (by kernel_rfl))
      clear hf hw hn hbe
      refine wpOp_value (v := .string Y) (w' := w2) rfl rfl ?_ ⟨_, rfl, (fun h => by cases h), by_refl _ _, ?_⟩
      · go_simp
      · exact (rfl : (.string Y : Value) = _)
    · have e1 : y.tmps[9]?.getD undef = .tuple #[.string Y, .int .i64 0] := hw 17 (of_decide_eq_true (by kernel_rfl))
      clear hf hw hn hbe
      refine wpOp_value (v := .int .i64 0) (w' := w2) rfl rfl ?_ ⟨_, rfl, (fun h => by cases h), by_refl _ _, ?_⟩
      · go_simp
      · exact (rfl : (.int .i64 0 : Value) = _)
    · have e1 : y.tmps[27]?.getD undef = .string Y := hw 18 (of_decide_eq_true (by kernel_rfl))
      clear hf hw hn hbe
      refine wpOp_value (v := .string Y) (w' := w2) rfl rfl ?_ ⟨_, rfl, (fun h => by cases h), by_refl _ _, ?_⟩
      · go_simp
      · exact (rfl : (.string Y : Value) = _)
    · have e1 : y.tmps[28]?.getD undef = .int .i64 0 := hw 19 (of_decide_eq_true (by kernel_rfl))
      clear hf hw hn hbe
      refine wpOp_value (v := .int .i64 0) (w' := w2) rfl rfl ?_ ⟨_, rfl, (fun h => by cases h), by_refl _ _, ?_⟩
      · go_simp
      · exact (rfl : (.int .i64 0 : Value) = _)
  case hchain =>
    intro m hm y w2 hf hw hch
    rcases (show m = 0 ∨ m = 1 ∨ m = 2 ∨ m = 3 ∨ m = 4 by omega) with rfl | rfl | rfl | rfl | rfl
    · have hbe : Below w1.heap.size w1 w2 := hch
      clear hf hw hch
      change wpOp _ _ _ 0 _ _ _
      refine wpOp_value (v := .pointer (some ⟨w2.heap.size, 0, none⟩)) (w' := w2.alloc (.cells #[.pointer none, .int .i64 0, .int .i64 0] 170)) rfl rfl ?_ ⟨_, rfl, (fun h => by cases h), GrownT.of_none (by_alloc (by_refl _ _) _), ⟨hbe.alloc hbe.size _, _, rfl, hbe.size, OutAt.new w2⟩, trivial⟩
      go_simp
    · obtain ⟨hbe, g, hg, hgW, ho⟩ := hch
      have e1 : y.tmps[10]?.getD undef = .pointer (some ⟨g, 0, none⟩) := hg
      obtain ⟨b, e2, hbk⟩ : ∃ b, y.tmps[11]?.getD undef = .slice (some ⟨b, 0, none⟩) 1 1 ∧ Blk w2 b 3 #[.int .i64 6] := hw 1 (of_decide_eq_true (by kernel_rfl))
      clear hf hw hg
      change wpOp _ _ _ 2 _ _ _
      refine wpOp_call (f := 111) (args := #[.pointer (some ⟨g, 0, none⟩), .slice (some ⟨b, 0, none⟩) 1 1]) rfl rfl (by go_simp) ((out_byte g _ _ 1 1 [6] w2 rfl (ints_blk1 hbk) (by simp) HR6.out ho (by simp [roomSt])).mono ?_)
      rintro e w3 ⟨rfl, h3, hg3⟩
      exact ⟨_, rfl, _, rfl, (fun h => by cases h), ho.grownT' hg3, ⟨below_by_new hbe hg3 hgW, g, rfl, hgW, h3⟩, trivial⟩
    · obtain ⟨hbe, g, hg, hgW, ho⟩ := hch
      have e1 : y.tmps[12]?.getD undef = .pointer (some ⟨g, 0, none⟩) := hg
      obtain ⟨b, e2, hbk⟩ : ∃ b, y.tmps[17]?.getD undef = .slice (some ⟨b, 0, none⟩) 1 1 ∧ Blk w2 b 3 #[.int .i64 (n : Int)] := hw 7 (of_decide_eq_true (by kernel_rfl))
      clear hf hw hg
      change wpOp _ _ _ 8 _ _ _
      refine wpOp_call (f := 112) (args := #[.pointer (some ⟨g, 0, none⟩), .slice (some ⟨b, 0, none⟩) 1 1]) rfl rfl (by go_simp) ((out_half g _ _ 1 1 [(n : Int)] w2 rfl (ints_blk1 hbk) (by simp) HRN.out ho (by rw [S2.out]; simp [lowBytes_length])).mono ?_)
      rintro e w3 ⟨rfl, h3, hg3⟩
      exact ⟨_, rfl, _, rfl, (fun h => by cases h), ho.grownT' hg3, ⟨below_by_new hbe hg3 hgW, g, rfl, hgW, h3⟩, trivial⟩
    · obtain ⟨hbe, g, hg, hgW, ho⟩ := hch
      have e1 : y.tmps[18]?.getD undef = .pointer (some ⟨g, 0, none⟩) := hg
      obtain ⟨b, e2, hbk⟩ : ∃ b, y.tmps[24]?.getD undef = .slice (some ⟨b, 0, none⟩) 1 1 ∧ Blk w2 b 9 #[.string B] := hw 14 (of_decide_eq_true (by kernel_rfl))
      clear hf hw hg
      change wpOp _ _ _ 15 _ _ _
      refine wpOp_call (f := 113) (args := #[.pointer (some ⟨g, 0, none⟩), .slice (some ⟨b, 0, none⟩) 1 1]) rfl rfl (by go_simp) ((out_raw g _ _ 1 1 [B] w2 rfl (txts_one hbk) (by simp) (by rw [cats_one, ← Lib.size_eq, HBE'.out]; omega) ho (by rw [S3.out]; simp [lowBytes_length])).mono ?_)
      rintro e w3 ⟨rfl, h3, hg3⟩
      exact ⟨_, rfl, _, rfl, (fun h => by cases h), ho.grownT' hg3, ⟨below_by_new hbe hg3 hgW, g, rfl, hgW, h3⟩, trivial⟩
    · obtain ⟨hbe, g, hg, hgW, ho⟩ := hch
      have e1 : y.tmps[25]?.getD undef = .pointer (some ⟨g, 0, none⟩) := hg
      have HFIN := fin_any g _ w2 ho (by rw [S4.out]; exact Wr.ok_zero _) (by rw [S4.out]; have := HLE.out; show (roomE n H).length ≤ _; omega)
      rw [S4.out] at HFIN
      clear hf hw hg
      change wpOp _ _ _ 16 _ _ _
      refine wpOp_call (f := 114) (args := #[.pointer (some ⟨g, 0, none⟩)]) rfl rfl (by go_simp) (HFIN.mono ?_)
      rintro e w3 ⟨rfl, _, hb3⟩
      refine ⟨_, rfl, _, rfl, (fun h => by cases h), GrownT.of_none (by_below hb3 (Nat.le_refl _)), hbe.trans (hb3.mono hbe.size), ?_⟩
      show _ = _
      rw [HYE.out]
      rfl
  case hK =>
    intro y w2 hf hv hch
    have hbe : Below w1.heap.size w1 w2 := hch
    have e4 : y.tmps[4]?.getD undef = .string Y := hv 20 (by omega)
    have e0 : y.tmps[0]? = some (.pointer (some ⟨g0, 0, none⟩)) := by rw [hf.2.2 0 (by decide)]; rfl
    have hd : y.defers = [] := hf.1
    have hsz : y.tmps.size = 34 := hf.2.1
    obtain ⟨tt, dd⟩ := y
    obtain rfl : dd = [] := hd
    have hsz : tt.size = 34 := hsz
    have e4' : tt[4]?.getD undef = .string Y := e4
    have HBE := Lib.hid hbe
    clear hf hv e4 e0 hbe hch
    obtain ⟨x0, x1, x2, x3, x4, x5, x6, x7, x8, x9, x10, x11, x12, x13, x14, x15, x16, x17, x18, x19, x20, x21, x22, x23, x24, x25, x26, x27, x28, x29, x30, x31, x32, x33, rfl⟩ := arr34 tt hsz
    obtain rfl : x4 = .string Y := by simpa using e4'
    clear e4' hsz
    go_wp2_with fail
    refine (HSEAL.out _ _ _ (txts_at _ _ _ _ rfl rfl)).mono ?_
    rintro e w4 ⟨rfl, hb4⟩
    have HB4 := Lib.hid hb4
    clear hb4
    go_wp2_with fail
    go_ret2
    exact ⟨rfl, (HBE.out.alloc HBE.out.size _).trans (HB4.out.mono (by have := HBE.out.size; simp; omega))⟩
end Go.Proofs.YtnamokngiebicaaGreatDoor

namespace Go.Proofs.YtnamokngiebicaaGreatDoor
open Go.RowKit

theorem same_text {a b : ByteArray} : (a.toList == b.toList) = decide (a = b) := by
  rw [Lib.toList_data, Lib.toList_data]
  by_cases h : a = b
  · subst h; simp
  · rw [decide_eq_false h]
    simp only [beq_eq_false_iff_ne, ne_eq]
    intro e
    exact h (ByteArray.ext (Array.toList_inj.1 e))
/-- What Read answers, by what is read out of the bytes. -/
def ReadAt (B : Nat) (r : Nat × List Int × Int) (e : Ending) (w' : World) : Prop :=
  (r.2.2 = 0 ∧ 1 ≤ r.1 ∧ ∃ g, e = .returned (.tuple #[.pointer (some ⟨g, 0, none⟩), .int .i64 0]) ∧ RoomAt w' g r.1 r.2.1 ∧ B ≤ g) ∨
  (r.2.2 ≠ 0 ∧ e = .returned (.tuple #[.pointer none, .int .i64 r.2.2]))
end Go.Proofs.YtnamokngiebicaaGreatDoor
