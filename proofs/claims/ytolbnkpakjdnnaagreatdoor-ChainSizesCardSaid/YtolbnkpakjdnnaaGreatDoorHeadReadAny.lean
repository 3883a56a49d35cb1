/-
  Package head's Read of any bytes: what it answers as a plain function. No statement is proved here.
-/
import Derived.Shelf.SlGeneric
import Derived.Shelf.Strings.Trim
import Derived.Ground.NamesProg
import Derived.Ground.Names2Prog
import Derived.Shelf.Slices.CompactI
import Derived.Shelf.Slices.Cells
import Derived.Ground.SlgmProg
import Derived.Shelf.SortM.Plain
import Derived.Shelf.SortM.SortNone
import Derived.Test.YtolbnkpakjdnnaaGreatDoorProg
import Derived.Test.YtolbnkpakjdnnaaGreatDoorCrcOf
import Derived.Test.YtolbnkpakjdnnaaGreatDoorRegionApp
import Derived.Deep.DeepCutAuto
import Derived.Deep.RegionWith
import Derived.Test.YtolbnkpakjdnnaaGreatDoorHeadSome
namespace Go.Proofs.YtolbnkpakjdnnaaGreatDoor
open Go.Shelf
def h_lays160_ren : Go.Shelf.Ren := ⟨fun | 160 => 162 | 232 => 186 | 231 => 185 | 227 => 187 | 234 => 189 | 233 => 188 | 236 => 191 | 235 => 190 | 228 => 202 | 271 => 205 | 151 => 204 | 197 => 203 | 120 => 218 | 152 => 217 | 260 => 216 | 137 => 222 | 119 => 223 | 224 => 224 | 225 => 225 | 217 => 227 | 266 => 228 | n => n, fun | 9 => 9 | 4 => 4 | 3 => 3 | 5 => 5 | 117 => 239 | 116 => 238 | 0 => 0 | 124 => 242 | 21 => 21 | 105 => 254 | 46 => 164 | 119 => 268 | 139 => 271 | 138 => 270 | n => n, fun | 3 => 1 | 4 => 2 | n => n⟩
theorem h_lays160 : Go.Proofs.Lays.n160 Tryz.prog h_lays160_ren := {
  mixed := by kernel_rfl
  f119 := Tryz.func223.trans (congrArg some (by kernel_rfl))
  f120 := Tryz.func218.trans (congrArg some (by kernel_rfl))
  f137 := Tryz.func222.trans (congrArg some (by kernel_rfl))
  f151 := Tryz.func204.trans (congrArg some (by kernel_rfl))
  f152 := Tryz.func217.trans (congrArg some (by kernel_rfl))
  f160 := Tryz.func162.trans (congrArg some (by kernel_rfl))
  f197 := Tryz.func203.trans (congrArg some (by kernel_rfl))
  f217 := Tryz.func227.trans (congrArg some (by kernel_rfl))
  f224 := Tryz.func224.trans (congrArg some (by kernel_rfl))
  f225 := Tryz.func225.trans (congrArg some (by kernel_rfl))
  f227 := Tryz.func187.trans (congrArg some (by kernel_rfl))
  f228 := Tryz.func202.trans (congrArg some (by kernel_rfl))
  f231 := Tryz.func185.trans (congrArg some (by kernel_rfl))
  f232 := Tryz.func186.trans (congrArg some (by kernel_rfl))
  f233 := Tryz.func188.trans (congrArg some (by kernel_rfl))
  f234 := Tryz.func189.trans (congrArg some (by kernel_rfl))
  f235 := Tryz.func190.trans (congrArg some (by kernel_rfl))
  f236 := Tryz.func191.trans (congrArg some (by kernel_rfl))
  f260 := Tryz.func216.trans (congrArg some (by kernel_rfl))
  f266 := Tryz.func228.trans (congrArg some (by kernel_rfl))
  f271 := Tryz.func205.trans (congrArg some (by kernel_rfl))
  t0 := Tryz.underlying0
  a0 := Tryz.isAgg0
  z0 := Tryz.sizeOf0
  v0 := Tryz.zeroValue0
  t3 := Tryz.underlying3
  a3 := Tryz.isAgg3
  z3 := Tryz.sizeOf3
  v3 := Tryz.zeroValue3
  t4 := Tryz.underlying4
  a4 := Tryz.isAgg4
  z4 := Tryz.sizeOf4
  v4 := Tryz.zeroValue4
  t5 := Tryz.underlying5
  a5 := Tryz.isAgg5
  z5 := Tryz.sizeOf5
  v5 := Tryz.zeroValue5
  t9 := Tryz.underlying9
  a9 := Tryz.isAgg9
  z9 := Tryz.sizeOf9
  v9 := Tryz.zeroValue9
  t21 := Tryz.underlying21
  a21 := Tryz.isAgg21
  z21 := Tryz.sizeOf21
  v21 := Tryz.zeroValue21
  t46 := Tryz.underlying164
  a46 := Tryz.isAgg164
  z46 := Tryz.sizeOf164
  v46 := Tryz.zeroValue164
  t105 := Tryz.underlying254
  a105 := Tryz.isAgg254
  z105 := Tryz.sizeOf254
  v105 := Tryz.zeroValue254
  t116 := Tryz.underlying238
  a116 := Tryz.isAgg238
  z116 := Tryz.sizeOf238
  t117 := Tryz.underlying239
  a117 := Tryz.isAgg239
  z117 := Tryz.sizeOf239
  v117 := Tryz.zeroValue239
  t119 := Tryz.underlying268
  a119 := Tryz.isAgg268
  z119 := Tryz.sizeOf268
  t124 := Tryz.underlying242
  a124 := Tryz.isAgg242
  z124 := Tryz.sizeOf242
  v124 := Tryz.zeroValue242
  t138 := Tryz.underlying270
  a138 := Tryz.isAgg270
  z138 := Tryz.sizeOf270
  v138 := Tryz.zeroValue270
  t139 := Tryz.underlying271
  a139 := Tryz.isAgg271
  z139 := Tryz.sizeOf271
  v139 := Tryz.zeroValue271
  g3 := by kernel_rfl
  g4 := by kernel_rfl }
open Go.RowKit in
/-- strings.Trim: "Trim returns a slice of the string s with all leading and trailing Unicode code points contained in cutset removed.": AT A cutset OF ONE ASCII BYTE. THE WORLD BEHIND IT: as it was, or (where s is not empty) with ONE DRAW MORE off the tape: the statement 'return trimLeftByte(trimRightByte(s, c), c)' draws its order of evaluation. (LAID: no walk: one application.) -/
theorem h_strings_Trim_one (s : ByteArray) (c : UInt8) (hc : c.toNat < 128) (w : World) (hs : s.size ≤ 9223372036854775807) :
    Calls Tryz.prog 162 #[.string s, .string ⟨#[c]⟩] w fun e w' => e = .returned (.string ⟨(Lib.trimB s.data.toList c).toArray⟩) ∧ (w' = w ∨ w' = w.drew) := Any.strings_Trim_one h_lays160 s c hc w hs
def h_laysNm220_ren : Go.Shelf.Ren := ⟨fun | 20 => 182 | n => n, fun | 22 => 30 | 3 => 3 | 4 => 4 | 0 => 0 | n => n, fun | n => n⟩
theorem h_laysNm220 : Go.Proofs.Lays2.n20 Tryz.prog h_laysNm220_ren := {
  mixed := by kernel_rfl
  f20 := Tryz.func182.trans (congrArg some (by kernel_rfl))
  t0 := Tryz.underlying0
  a0 := Tryz.isAgg0
  z0 := Tryz.sizeOf0
  v0 := Tryz.zeroValue0
  t3 := Tryz.underlying3
  a3 := Tryz.isAgg3
  z3 := Tryz.sizeOf3
  v3 := Tryz.zeroValue3
  t4 := Tryz.underlying4
  a4 := Tryz.isAgg4
  z4 := Tryz.sizeOf4
  v4 := Tryz.zeroValue4
  t22 := Tryz.underlying30
  a22 := Tryz.isAgg30
  z22 := Tryz.sizeOf30
  v22 := Tryz.zeroValue30
  i3 := by kernel_rfl }
open Go.RowKit Go.Lib Go.Sort in
/-- The same at a slice of length 0, a nil one too: it comes back as it is. (LAID: no walk: one application.) -/
theorem h_slices_Compact_int_empty (a : Option Addr) (cap : Nat) (w : World) :
    Calls Tryz.prog 182 #[.slice a 0 cap] w fun e w' => e = .returned (.slice a 0 cap) ∧ w' = w := Any.slices_Compact_int_empty h_laysNm220 a cap w
open Go.RowKit Go.Lib Go.Sort in
/-- slices.Compact at []int, of an argument: the slice cut to 'Lib.compact (elements)'; the n cells hold that, then zeros. (LAID: no walk: one application.) -/
theorem h_slices_Compact_int_cells (b off n c : Nat) (zs : List Int) (w : World) (hz : n ≤ zs.length) (hbig : n ≤ 9223372036854775807) (hcap : n ≤ c) (hc : ∀ j, j < zs.length → w.cell? ⟨b, off + j, none⟩ = some (.int .i64 (zs.getD j 0))) (hf : ∀ j, j < n → w.frozen? ⟨b, off + j, none⟩ = false) :
    Calls Tryz.prog 182 #[.slice (some ⟨b, off, none⟩) n c] w fun e w' => e = .returned (.slice (some ⟨b, off, none⟩) (Lib.compact (zs.take n)).length c) ∧ ∃ q, w' = (w.drewN q).setCells b off ((Lib.compact (zs.take n) ++ List.replicate (n - (Lib.compact (zs.take n)).length) 0).map (Value.int .i64)) := Any.slices_Compact_int_cells h_laysNm220 b off n c zs w hz hbig hcap hc hf
def h_laysSlM5_f11_ren : Go.Shelf.Ren := ⟨fun | 5 => 181 | 8 => 136 | 7 => 200 | 19 => 173 | 20 => 174 | 10 => 207 | 11 => 208 | 12 => 209 | 13 => 210 | 14 => 211 | 15 => 212 | 16 => 213 | 17 => 214 | 18 => 215 | 30 => 219 | 31 => 194 | 32 => 195 | 33 => 220 | 34 => 221 | 35 => 137 | 40 => 226 | n => n, fun | 23 => 30 | 25 => 3 | 3 => 3 | 32 => 164 | 22 => 30 | 0 => 0 | 44 => 201 | 46 => 172 | 4 => 4 | 36 => 221 | 35 => 220 | 41 => 225 | 5 => 5 | 9 => 9 | 53 => 243 | 57 => 247 | 63 => 257 | 64 => 258 | n => n, fun | n => n⟩
theorem h_laysSlM5_f11 : Go.Proofs.SlLaysM.n5 Tryz.prog h_laysSlM5_f11_ren := {
  mixed := by kernel_rfl
  f5 := ⟨Tryz.f181.name, by decide, Tryz.func181.trans (congrArg some (by kernel_rfl))⟩
  f7 := ⟨Tryz.f200.name, by decide, Tryz.func200.trans (congrArg some (by kernel_rfl))⟩
  f8 := Tryz.func136.trans (congrArg some (by kernel_rfl))
  f10 := ⟨Tryz.f207.name, by decide, Tryz.func207.trans (congrArg some (by kernel_rfl))⟩
  f11 := ⟨Tryz.f208.name, by decide, Tryz.func208.trans (congrArg some (by kernel_rfl))⟩
  f12 := ⟨Tryz.f209.name, by decide, Tryz.func209.trans (congrArg some (by kernel_rfl))⟩
  f13 := ⟨Tryz.f210.name, by decide, Tryz.func210.trans (congrArg some (by kernel_rfl))⟩
  f14 := ⟨Tryz.f211.name, by decide, Tryz.func211.trans (congrArg some (by kernel_rfl))⟩
  f15 := ⟨Tryz.f212.name, by decide, Tryz.func212.trans (congrArg some (by kernel_rfl))⟩
  f16 := ⟨Tryz.f213.name, by decide, Tryz.func213.trans (congrArg some (by kernel_rfl))⟩
  f17 := ⟨Tryz.f214.name, by decide, Tryz.func214.trans (congrArg some (by kernel_rfl))⟩
  f18 := ⟨Tryz.f215.name, by decide, Tryz.func215.trans (congrArg some (by kernel_rfl))⟩
  f19 := Tryz.func173.trans (congrArg some (by kernel_rfl))
  f20 := Tryz.func174.trans (congrArg some (by kernel_rfl))
  f30 := ⟨Tryz.f219.name, by decide, Tryz.func219.trans (congrArg some (by kernel_rfl))⟩
  f31 := Tryz.func194.trans (congrArg some (by kernel_rfl))
  f32 := Tryz.func195.trans (congrArg some (by kernel_rfl))
  f33 := ⟨Tryz.f220.name, by decide, Tryz.func220.trans (congrArg some (by kernel_rfl))⟩
  f34 := ⟨Tryz.f221.name, by decide, Tryz.func221.trans (congrArg some (by kernel_rfl))⟩
  f35 := ⟨Tryz.f137.name, by decide, Tryz.func137.trans (congrArg some (by kernel_rfl))⟩
  f40 := ⟨Tryz.f226.name, by decide, Tryz.func226.trans (congrArg some (by kernel_rfl))⟩
  t0 := Tryz.underlying0
  a0 := Tryz.isAgg0
  z0 := Tryz.sizeOf0
  v0 := Tryz.zeroValue0
  t3 := Tryz.underlying3
  a3 := Tryz.isAgg3
  z3 := Tryz.sizeOf3
  v3 := Tryz.zeroValue3
  t4 := Tryz.underlying4
  a4 := Tryz.isAgg4
  z4 := Tryz.sizeOf4
  v4 := Tryz.zeroValue4
  t5 := Tryz.underlying5
  a5 := Tryz.isAgg5
  z5 := Tryz.sizeOf5
  v5 := Tryz.zeroValue5
  t9 := Tryz.underlying9
  a9 := Tryz.isAgg9
  z9 := Tryz.sizeOf9
  v9 := Tryz.zeroValue9
  t22 := Tryz.underlying30
  a22 := Tryz.isAgg30
  z22 := Tryz.sizeOf30
  v22 := Tryz.zeroValue30
  t23 := Tryz.underlying30
  a23 := Tryz.isAgg30
  z23 := Tryz.sizeOf30
  v23 := Tryz.zeroValue30
  t25 := Tryz.underlying3
  a25 := Tryz.isAgg3
  z25 := Tryz.sizeOf3
  v25 := Tryz.zeroValue3
  t32 := Tryz.underlying164
  a32 := Tryz.isAgg164
  z32 := Tryz.sizeOf164
  v32 := Tryz.zeroValue164
  t35 := Tryz.underlying220
  a35 := Tryz.isAgg220
  z35 := Tryz.sizeOf220
  v35 := Tryz.zeroValue220
  t36 := Tryz.underlying221
  a36 := Tryz.isAgg221
  z36 := Tryz.sizeOf221
  v36 := Tryz.zeroValue221
  t41 := Tryz.underlying225
  a41 := Tryz.isAgg225
  z41 := Tryz.sizeOf225
  v41 := Tryz.zeroValue225
  t44 := Tryz.underlying201
  a44 := Tryz.isAgg201
  z44 := Tryz.sizeOf201
  v44 := Tryz.zeroValue201
  t46 := Tryz.underlying172
  a46 := Tryz.isAgg172
  z46 := Tryz.sizeOf172
  v46 := Tryz.zeroValue172
  t53 := Tryz.underlying243
  a53 := Tryz.isAgg243
  z53 := Tryz.sizeOf243
  v53 := Tryz.zeroValue243
  t57 := Tryz.underlying247
  a57 := Tryz.isAgg247
  z57 := Tryz.sizeOf247
  v57 := Tryz.zeroValue247
  t63 := Tryz.underlying257
  a63 := Tryz.isAgg257
  z63 := Tryz.sizeOf257
  v63 := Tryz.zeroValue257
  t64 := Tryz.underlying258
  a64 := Tryz.isAgg258
  z64 := Tryz.sizeOf258
  v64 := Tryz.zeroValue258 }
open Go.Sort Go.RowKit in
theorem h_slices_Sort_int (blk off cap : Nat) (zs : List Int) (w : World) (hH : Holds (Value.int .i64) w blk off zs.toArray) (hblk : blk < w.heap.size) (hsz : zs.length < 4611686018427387904) :
    Calls Tryz.prog 181 #[.slice (some ⟨blk, off, none⟩) zs.length cap] w fun e w' =>
      e = .returned (.tuple #[]) ∧ ∃ n os, w' = grow (putRow (Value.int .i64) (Sort.ahead w n) blk off (zs.mergeSort fun x y => decide (x ≤ y)).toArray) os := AnyM.slices_Sort_int h_laysSlM5_f11 blk off cap zs w hH hblk hsz
open Go.RowKit Go.Sort in
/-- .. and plain. (LAID AT THE INSTANCE 'slices.Sort[[]int,int]': no walk: one application.) -/
theorem h_slices_Sort_int_none (p : Option Addr) (cap : Nat) (w : World) :
    Calls Tryz.prog 181 #[.slice p 0 cap] w fun e w' => e = .returned (.tuple #[]) ∧ w' = w := AnyM.slices_Sort_int_none h_laysSlM5_f11 p cap w
end Go.Proofs.YtolbnkpakjdnnaaGreatDoor

namespace Go.Proofs.YtolbnkpakjdnnaaGreatDoor
open Go.RowKit

/-- What Open answers, as values. -/
def openV (l : List UInt8) : Value := .tuple #[.string ⟨(openB l).1.toArray⟩, .int .i64 (openB l).2]

set_option maxRecDepth 100000 in
set_option maxHeartbeats 1000000 in
theorem open_short (b : ByteArray) (w : World) (h : b.size < 4) :
    Calls Tryz.prog 131 #[.string b] w fun e w' => e = .returned (openV b.data.toList) ∧ w = w' := by
  have E : openV b.data.toList = .tuple #[.string .empty, .int .i64 5] := by unfold openV openB; rw [if_pos (by rw [← Lib.size_eq]; exact h)]; rfl
  rw [E]
  clear E
  go_enter Tryz.func131, Tryz.ntmps131
  go_wp2_with fail
  go_ret2
  exact ⟨rfl, rfl⟩


/-- A number's four bytes. -/
theorem num_four (T : ByteArray) (h : T.size = 4) : ((Rd.mk T 0).num 4).1 = (low T.data.toList : Int) := by
  have e : (Rd.mk T 0).take 4 = (T, true, ⟨.empty, 0⟩) := by
    unfold Rd.take
    rw [if_neg (by simp), if_neg (by omega), if_neg (by simp only []; omega)]
    have e1 : T.extract 0 (4 : Int).toNat = T := by
      have : (4 : Int).toNat = T.size := by rw [h]; rfl
      rw [this]
      exact ByteArray.extract_zero_size
    have e2 : T.extract (4 : Int).toNat T.size = .empty := by
      have : (4 : Int).toNat = T.size := by rw [h]; rfl
      rw [this]
      apply ByteArray.ext
      simp
    simp only [e1, e2]
  have hl := low_lt T.data.toList
  have hs : T.data.toList.length = 4 := by rw [← Lib.size_eq]; exact h
  rw [hs] at hl
  unfold Rd.num
  have e' : (Rd.mk T 0).take ((4 : Nat) : Int) = (T, true, ⟨.empty, 0⟩) := e
  rw [e', if_pos rfl, if_neg (by simp only []; omega)]

theorem cats_single (x : ByteArray) : cats [x] = x.data.toList := by simp [cats]
def apartB (a c : Nat) : Bool := ((a : Int) != (c : Int))
theorem openV_of {b H T : ByteArray} {k : Nat} (hk : b.size = k + 4) (hT : T = b.extract k b.size) (hH : H = b.extract 0 k) :
    openV b.data.toList = if low T.data.toList = crc H.data.toList then .tuple #[.string H, .int .i64 0] else .tuple #[.string .empty, .int .i64 7] := by
  have hl : b.data.toList.length = k + 4 := by rw [← Lib.size_eq]; exact hk
  have eT : T.data.toList = b.data.toList.drop k := by
    rw [hT, ByteArray.data_extract, Array.toList_extract, List.extract_eq_take_drop, List.take_of_length_le (by rw [List.length_drop, hl, hk]; exact Nat.le_refl _)]
  have eH : H.data.toList = b.data.toList.take k := by
    rw [hH, ByteArray.data_extract, Array.toList_extract, List.extract_eq_take_drop, List.drop_zero, Nat.sub_zero]
  unfold openV openB
  rw [if_neg (by omega), show b.data.toList.length - 4 = k by omega, ← eT, ← eH]
  split <;> rfl
theorem apartB_no {a c : Nat} (h : a = c) : apartB a c = false := by unfold apartB; rw [h]; simp
theorem apartB_yes {a c : Nat} (h : a ≠ c) : apartB a c = true := by unfold apartB; rw [bne_iff_ne]; omega

section
variable (b H T : ByteArray) (k : Nat) (w0 : World)
/-- What operation i of the region leaves in its slot. -/
def opFact (w : World) (L : Nat → Bool) (i : Nat) (v : Value) : Prop :=
  match i with
  | 0 | 5 => v = .string b
  | 1 | 6 => v = .int .i64 k
  | 2 => v = .string T
  | 3 => L 4 = false → ∃ g, v = .pointer (some ⟨g, 0, none⟩) ∧ w0.heap.size ≤ g ∧ InAt w g ⟨T, 0⟩
  | 4 => v = .int .i64 (low T.data.toList)
  | 7 => v = .string H
  | 8 => ∃ g, v = .slice (some ⟨g, 0, none⟩) 1 1 ∧ w0.heap.size ≤ g ∧ Blk w g 9 #[.string H]
  | 9 => v = .int .u32 (crc H.data.toList)
  | 10 => v = .int .i64 (crc H.data.toList)
  | _ => v = .bool (apartB (low T.data.toList) (crc H.data.toList))
theorem opFact_list {w : World} {L : Nat → Bool} {v : Value} (h : opFact b H T k w0 w L 8 v) : ∃ g, v = .slice (some ⟨g, 0, none⟩) 1 1 ∧ w0.heap.size ≤ g ∧ Blk w g 9 #[.string H] := by
  unfold opFact at h
  exact h
theorem opFact_below {w w' : World} {L L' : Nat → Bool} (hb : Below w.heap.size w w') (hL : L' 4 = false → L 4 = false) (i : Nat) (v : Value) (h : opFact b H T k w0 w L i v) : opFact b H T k w0 w' L' i v := by
  unfold opFact at *
  split at h <;> first
    | exact h
    | (intro h4; obtain ⟨g, e, h1, h2⟩ := h (hL h4); exact ⟨g, e, h1, h2.below hb (Blk.lt h2)⟩)
    | (obtain ⟨g, e, h1, h2⟩ := h; exact ⟨g, e, h1, h2.below hb h2.lt⟩)
/-- The reader reads on: of it nothing more is said. -/
theorem opFact_word {w w' : World} {L L' : Nat → Bool} {g : Nat} {s : Rd} (hg : w.grownBy w' (some g)) (hI : InAt w g s) (hL : L' 4 = true) (i : Nat) (v : Value) (h : opFact b H T k w0 w L i v) : opFact b H T k w0 w' L' i v := by
  unfold opFact at *
  split at h <;> first
    | exact h
    | (intro h4; rw [hL] at h4; cases h4)
    | (obtain ⟨g', e, h1, h2⟩ := h
       refine ⟨g', e, h1, h2.grown hg (fun e => ?_)⟩
       injection e with e
       subst e
       have := h2.symm.trans hI
       injection this with this
       injection this with _ this
       cases this)
/-- The frame ahead of the region. -/
def opF (b : ByteArray) (k : Nat) : Act :=
  ⟨#[.string b, undef, .string .empty, .int .i64 0, .int .i64 k, .string b, .int .i64 b.size, .int .i64 k, .int .i64 k, .bool (decide ((k : Int) < 0)), undef, undef, undef, undef, undef, undef, undef, undef, undef, undef, undef, undef, undef, undef, undef, undef], []⟩
def opInv (F : Act) (L : Nat → Bool) (x : Act) (w : World) : Prop := FrameKept F 10 21 x ∧ Left 12 10 (opFact b H T k w0 w L) L x ∧ Below w0.heap.size w0 w
theorem op_next {F : Act} {L : Nat → Bool} {x : Act} {w w' : World} (hF26 : F.tmps.size = 26) (i : Nat) (v : Value) (h : opInv b H T k w0 F L x w) (hi : i < 12) (h4 : i ≠ 4) (hb : Below w.heap.size w w')
    (hv : opFact b H T k w0 w' (fun j => if i = j then true else L j) i v) : opInv b H T k w0 F (fun j => if i = j then true else L j) (x.put (some (10 + i)) v) w' := by
  obtain ⟨h1, h2, h3⟩ := h
  refine ⟨h1.put _ v (by omega) (by omega), h2.next i v (by rw [h1.2.1, hF26]; omega) (fun j u _ _ hju => opFact_below b H T k w0 hb (fun hL => ?_) j u hju) hv, h3.trans (hb.mono h3.size)⟩
  simpa only [if_neg h4] using hL
theorem op_word {F : Act} {L : Nat → Bool} {x : Act} {w w' : World} {g : Nat} (hF26 : F.tmps.size = 26) (h : opInv b H T k w0 F L x w) (hI : InAt w g ⟨T, 0⟩) (hg0 : w0.heap.size ≤ g) (hg : w.grownBy w' (some g)) :
    opInv b H T k w0 F (fun j => if 4 = j then true else L j) (x.put (some (10 + 4)) (.int .i64 (low T.data.toList))) w' := by
  obtain ⟨h1, h2, h3⟩ := h
  refine ⟨h1.put _ _ (by omega) (by omega), h2.next 4 _ (by rw [h1.2.1, hF26]; omega) (fun j u _ _ hju => opFact_word b H T k w0 hg hI rfl j u hju) rfl, below_by_new h3 hg hg0⟩
end

set_option maxRecDepth 100000 in
set_option maxHeartbeats 4000000 in
theorem open_in (b : ByteArray) (k : Nat) (w : World) (hk : b.size = k + 4) (hb : b.size ≤ 140737488351232) :
    Calls Tryz.prog 131 #[.string b] w fun e w' => e = .returned (openV b.data.toList) ∧ Below w.heap.size w w' := by
  have hk1 : k + 4 ≤ b.size := by omega
  have hk2 : b.size ≤ k + 4 := by omega
  have HKB := Lib.hid hk
  clear hk
  obtain ⟨T, hT⟩ : ∃ T, T = b.extract k b.size := ⟨_, rfl⟩
  obtain ⟨H, hH⟩ : ∃ H, H = b.extract 0 k := ⟨_, rfl⟩
  have HT := Lib.hid hT
  have HH := Lib.hid hH
  have HT4 : Hid (T.size = 4) := Lib.hid (by rw [hT]; simp; omega)
  have HHs : Hid (H.size ≤ 140737488351232) := Lib.hid (by rw [hH]; simp; omega)
  clear hT hH
  go_enter Tryz.func131, Tryz.ntmps131
  go_upto_region 4 with fail
  rw [show (b.size : Int) - 4 = (k : Int) from by omega]
  refine wp_region_kept (opInv b H T k w (opF b k)) (by kernel_rfl) (by kernel_rfl) ?h0 ?hs ?hd
  case h0 => exact ⟨FrameKept.refl _ _ _, (fun _ _ h => by cases h), (Below.refl _ _).drew⟩
  case hd =>
    intro L x wi ⟨hF, hfact, hbi⟩ hall
    obtain ⟨t, d⟩ := x
    obtain ⟨x0, x1, x2, x3, x4, x5, x6, x7, x8, x9, x10, x11, x12, x13, x14, x15, x16, x17, x18, x19, x20, x21, x22, x23, x24, x25, rfl⟩ := arr26 t hF.2.1
    obtain rfl : d = [] := hF.1
    have e21 : x21 = .bool (apartB (low T.data.toList) (crc H.data.toList)) := hfact 11 (by omega) (hall 11 (show 11 < 12 by omega))
    subst e21
    obtain rfl : x0 = .string b := Option.some.inj (hF.2.2 0 (by omega))
    obtain rfl : x1 = undef := Option.some.inj (hF.2.2 1 (by omega))
    obtain rfl : x2 = .string .empty := Option.some.inj (hF.2.2 2 (by omega))
    obtain rfl : x3 = .int .i64 0 := Option.some.inj (hF.2.2 3 (by omega))
    obtain rfl : x4 = .int .i64 k := Option.some.inj (hF.2.2 4 (by omega))
    obtain rfl : x5 = .string b := Option.some.inj (hF.2.2 5 (by omega))
    obtain rfl : x6 = .int .i64 b.size := Option.some.inj (hF.2.2 6 (by omega))
    obtain rfl : x7 = .int .i64 k := Option.some.inj (hF.2.2 7 (by omega))
    obtain rfl : x8 = .int .i64 k := Option.some.inj (hF.2.2 8 (by omega))
    obtain rfl : x9 = .bool (decide ((k : Int) < 0)) := Option.some.inj (hF.2.2 9 (by omega))
    obtain rfl : x22 = undef := Option.some.inj (hF.2.2 22 (by omega))
    obtain rfl : x23 = undef := Option.some.inj (hF.2.2 23 (by omega))
    obtain rfl : x24 = undef := Option.some.inj (hF.2.2 24 (by omega))
    obtain rfl : x25 = undef := Option.some.inj (hF.2.2 25 (by omega))
    clear hF hfact hall
    have HV := Lib.hid (openV_of HKB.out HT.out HH.out)
    by_cases he : low T.data.toList = crc H.data.toList
    · have HE := Lib.hid he
      rw [apartB_no he]
      clear he
      have hx2 : b.extract 0 k = H := HH.out.symm
      go_wp2_with (go_at_call 66; refine (clone_any H _ (by have := HHs.out; omega)).mono ?_; rintro e w1 ⟨rfl, hb1⟩)
      go_ret2
      exact ⟨by rw [HV.out, if_pos HE.out]; rfl, hbi.trans (hb1.mono hbi.size)⟩
    · have HE := Lib.hid he
      rw [apartB_yes he]
      clear he
      go_wp2_with fail
      go_ret2
      exact ⟨by rw [HV.out, if_neg HE.out]; rfl, hbi⟩
  case hs =>
    intro L x wi i hI hi hL hw
    have hi : i < 12 := hi
    obtain ⟨hF, hfact, hbi⟩ := id hI
    rcases (show i = 0 ∨ i = 1 ∨ i = 2 ∨ i = 3 ∨ i = 4 ∨ i = 5 ∨ i = 6 ∨ i = 7 ∨ i = 8 ∨ i = 9 ∨ i = 10 ∨ i = 11 by omega) with rfl | rfl | rfl | rfl | rfl | rfl | rfl | rfl | rfl | rfl | rfl | rfl
    · have e0 : x.tmps[0]?.getD undef = .string b := hF.get 0 (by omega)
      have HK := Lib.hid (op_next b H T k w (F := opF b k) (L := L) (x := x) (w := wi) (w' := wi) rfl 0 (.string b) hI hi (by omega) (Below.refl _ _) rfl)
      clear hI hF hfact hbi hw hL hi
      refine wpOp_value (v := (.string b)) (w' := wi) rfl rfl ?_ HK.out
      go_simp
    · have e4 : x.tmps[4]?.getD undef = .int .i64 k := hF.get 4 (by omega)
      have HK := Lib.hid (op_next b H T k w (F := opF b k) (L := L) (x := x) (w := wi) (w' := wi) rfl 1 (.int .i64 k) hI hi (by omega) (Below.refl _ _) rfl)
      clear hI hF hfact hbi hw hL hi
      refine wpOp_value (v := (.int .i64 k)) (w' := wi) rfl rfl ?_ HK.out
      go_simp
    · have e1 : x.tmps[10]?.getD undef = .string b := (hfact 0 (by omega) (hw 0 (of_decide_eq_true (by kernel_rfl))))
      have e2 : x.tmps[11]?.getD undef = .int .i64 k := (hfact 1 (by omega) (hw 1 (of_decide_eq_true (by kernel_rfl))))
      have ex : b.extract k b.size = T := HT.out.symm
      have HK := Lib.hid (op_next b H T k w (F := opF b k) (L := L) (x := x) (w := wi) (w' := wi) rfl 2 (.string T) hI hi (by omega) (Below.refl _ _) rfl)
      clear hI hF hfact hbi hw hL hi
      refine wpOp_value (v := (.string T)) (w' := wi) rfl rfl ?_ HK.out
      go_simp
      intro hlt
      omega
    · have e1 : x.tmps[12]?.getD undef = .string T := (hfact 2 (by omega) (hw 2 (of_decide_eq_true (by kernel_rfl))))
      have HC := Lib.hid ((on_any T wi (by have := HT4.out; omega)).mono (fun e w'' ⟨g, he, hg, h1, h2⟩ => show ∃ v, e = Ending.returned v ∧ opInv b H T k w (opF b k) (fun j => if 3 = j then true else L j) (x.put (some (10 + 3)) v) w'' from
        ⟨_, he, op_next b H T k w (F := opF b k) rfl 3 _ hI hi (by omega) h2 (fun _ => ⟨g, rfl, Nat.le_trans hbi.size hg, h1⟩)⟩))
      clear hI hF hfact hbi hw hL hi
      refine wpOp_call rfl rfl ?_ HC.out
      go_simp
    · obtain ⟨g, e1, hg0, hin⟩ : ∃ g, x.tmps[13]?.getD undef = .pointer (some ⟨g, 0, none⟩) ∧ w.heap.size ≤ g ∧ InAt wi g ⟨T, 0⟩ := (hfact 3 (by omega) (hw 3 (of_decide_eq_true (by kernel_rfl)))) hL
      have HC := Lib.hid ((in_word g ⟨T, 0⟩ wi hin (by have := HT4.out; simp only []; omega)).mono (fun e w'' ⟨he, h1, h2⟩ => show ∃ v, e = Ending.returned v ∧ opInv b H T k w (opF b k) (fun j => if 4 = j then true else L j) (x.put (some (10 + 4)) v) w'' from
        ⟨_, he.trans (by rw [num_four T HT4.out]), op_word b H T k w (F := opF b k) rfl hI hin hg0 h2⟩))
      clear hI hF hfact hbi hw hL hi hin
      refine wpOp_call rfl rfl ?_ HC.out
      go_simp
    · have e0 : x.tmps[0]?.getD undef = .string b := hF.get 0 (by omega)
      have HK := Lib.hid (op_next b H T k w (F := opF b k) (L := L) (x := x) (w := wi) (w' := wi) rfl 5 (.string b) hI hi (by omega) (Below.refl _ _) rfl)
      clear hI hF hfact hbi hw hL hi
      refine wpOp_value (v := (.string b)) (w' := wi) rfl rfl ?_ HK.out
      go_simp
    · have e4 : x.tmps[4]?.getD undef = .int .i64 k := hF.get 4 (by omega)
      have HK := Lib.hid (op_next b H T k w (F := opF b k) (L := L) (x := x) (w := wi) (w' := wi) rfl 6 (.int .i64 k) hI hi (by omega) (Below.refl _ _) rfl)
      clear hI hF hfact hbi hw hL hi
      refine wpOp_value (v := (.int .i64 k)) (w' := wi) rfl rfl ?_ HK.out
      go_simp
    · have e1 : x.tmps[15]?.getD undef = .string b := (hfact 5 (by omega) (hw 5 (of_decide_eq_true (by kernel_rfl))))
      have e2 : x.tmps[16]?.getD undef = .int .i64 k := (hfact 6 (by omega) (hw 6 (of_decide_eq_true (by kernel_rfl))))
      have ex : b.extract 0 k = H := HH.out.symm
      have HK := Lib.hid (op_next b H T k w (F := opF b k) (L := L) (x := x) (w := wi) (w' := wi) rfl 7 (.string H) hI hi (by omega) (Below.refl _ _) rfl)
      clear hI hF hfact hbi hw hL hi
      refine wpOp_value (v := (.string H)) (w' := wi) rfl rfl ?_ HK.out
      go_simp
      intro hlt
      omega
    · have e1 : x.tmps[17]?.getD undef = .string H := (hfact 7 (by omega) (hw 7 (of_decide_eq_true (by kernel_rfl))))
      have HK := Lib.hid (op_next b H T k w (F := opF b k) (L := L) (x := x) (w := wi) (w' := wi.alloc (.cells #[.string H] 9)) rfl 8 (.slice (some ⟨wi.heap.size, 0, none⟩) 1 1) hI hi (by omega) ((Below.refl _ _).alloc (Nat.le_refl _) _) ⟨_, rfl, hbi.size, Blk.new _ _ _⟩)
      clear hI hF hfact hbi hw hL hi
      refine wpOp_value (v := (.slice (some ⟨wi.heap.size, 0, none⟩) 1 1)) (w' := wi.alloc (.cells #[.string H] 9)) rfl rfl ?_ HK.out
      go_simp
    · obtain ⟨g, e1, hg0, hin⟩ : ∃ g, x.tmps[18]?.getD undef = .slice (some ⟨g, 0, none⟩) 1 1 ∧ w.heap.size ≤ g ∧ Blk wi g 9 #[.string H] := opFact_list b H T k w (hfact 8 (by omega) (hw 8 (of_decide_eq_true (by kernel_rfl))))
      have HC := Lib.hid ((of_any (some ⟨g, 0, none⟩) 1 1 [H] wi rfl (fun _ => ⟨g, 0, rfl, hin.lt, fun j y hy => by rw [hin.cell (0 + j)]; match j, hy with | 0, hy => (injection hy with hy; rw [← hy]; rfl)⟩) (by simp) (fun y hy => by rw [List.mem_singleton.1 hy]; exact HHs.out)).mono (fun e w'' ⟨he, h2⟩ => show ∃ v, e = Ending.returned v ∧ opInv b H T k w (opF b k) (fun j => if 9 = j then true else L j) (x.put (some (10 + 9)) v) w'' from
        ⟨_, he.trans (by rw [cats_single]), by subst h2; exact op_next b H T k w (F := opF b k) rfl 9 _ hI hi (by omega) (Below.refl _ _) rfl⟩))
      clear hI hF hfact hbi hw hL hi hin
      refine wpOp_call rfl rfl ?_ HC.out
      go_simp
    · have e1 : x.tmps[19]?.getD undef = .int .u32 (crc H.data.toList) := (hfact 9 (by omega) (hw 9 (of_decide_eq_true (by kernel_rfl))))
      have hcl := crc_lt H.data.toList
      have HK := Lib.hid (op_next b H T k w (F := opF b k) (L := L) (x := x) (w := wi) (w' := wi) rfl 10 (.int .i64 (crc H.data.toList)) hI hi (by omega) (Below.refl _ _) rfl)
      clear hI hF hfact hbi hw hL hi
      refine wpOp_value (v := (.int .i64 (crc H.data.toList))) (w' := wi) rfl rfl ?_ HK.out
      go_simp
      exact IntWalk.i64_in _ (by omega)
    · have e1 : x.tmps[14]?.getD undef = .int .i64 (low T.data.toList) := (hfact 4 (by omega) (hw 4 (of_decide_eq_true (by kernel_rfl))))
      have e2 : x.tmps[20]?.getD undef = .int .i64 (crc H.data.toList) := (hfact 10 (by omega) (hw 10 (of_decide_eq_true (by kernel_rfl))))
      have HK := Lib.hid (op_next b H T k w (F := opF b k) (L := L) (x := x) (w := wi) (w' := wi) rfl 11 (.bool (apartB (low T.data.toList) (crc H.data.toList))) hI hi (by omega) (Below.refl _ _) rfl)
      clear hI hF hfact hbi hw hL hi
      refine wpOp_value (v := (.bool (apartB (low T.data.toList) (crc H.data.toList)))) (w' := wi) rfl rfl ?_ HK.out
      go_simp
      rfl

theorem open_any (b : ByteArray) (w : World) (hb : b.size ≤ 140737488351232) :
    Calls Tryz.prog 131 #[.string b] w fun e w' => e = .returned (openV b.data.toList) ∧ Below w.heap.size w w' := by
  by_cases h : b.size < 4
  · exact (open_short b w h).mono fun e w' ⟨he, hw⟩ => ⟨he, hw ▸ Below.refl _ _⟩
  · exact open_in b (b.size - 4) w (by omega) hb
end Go.Proofs.YtolbnkpakjdnnaaGreatDoor

namespace Go.Proofs.YtolbnkpakjdnnaaGreatDoor
open Go.RowKit

/-- A struct in a cell of its own, and a number. -/
theorem hret_cell2 {P : Program} {fn : Func} {R : Ending → World → Prop} {a : Act} {w : World} {q r : Tmp} {ty : TypeId} {ad : Addr} {v u : Value} (h : fn.results = #[.cell q ty, .tmp r]) (hp : a.tmps.getD q undef = .pointer (some ad))
    (hl : (loadVar ty ad).run P w = .ok v w) (hu : a.tmps.getD r undef = u) (hd : a.defers = []) (hR : R (.returned (.tuple #[v, u])) w) : bodyPost P fn R .ret a w := by
  refine bodyPost_ret (v := .tuple #[v, u]) ?_ hd hR
  simp only [results, h]
  have hp' : a.tmps[q]?.getD undef = .pointer (some ad) := by simpa using hp
  have hu' : a.tmps[r]?.getD undef = u := by simpa using hu
  simp [hp', hu', asAddr, hl]
theorem dropWhile_keeps {l : List UInt8} (p : UInt8 → Bool) (x : UInt8) (hx : x ∈ l) (hp : p x = false) : x ∈ l.dropWhile p := by
  induction l with
  | nil => cases hx
  | cons y r ih =>
    rw [List.dropWhile_cons]
    split
    · rename_i hy
      rcases List.mem_cons.1 hx with rfl | hx
      · rw [hp] at hy; cases hy
      · exact ih hx
    · exact hx
theorem trim_keeps {l : List UInt8} (hx : (7 : UInt8) ∈ l) : (Lib.trimB l 0).isEmpty = false := by
  unfold Lib.trimB Lib.trimLeftB Lib.trimRightB
  have h1 : (7 : UInt8) ∈ (l.reverse.dropWhile (· == 0)).reverse := by
    rw [List.mem_reverse]
    exact dropWhile_keeps _ 7 (by rw [List.mem_reverse]; exact hx) (by decide)
  have h2 := dropWhile_keeps (· == 0) 7 h1 (by decide)
  cases h : ((l.reverse.dropWhile (· == 0)).reverse.dropWhile (· == 0)) with
  | nil => rw [h] at h2; cases h2
  | cons _ _ => rfl

set_option maxRecDepth 100000 in
set_option maxHeartbeats 4000000 in
theorem hread_laid (h : HD) (hvb : h.validB = true) (w : World) :
    Calls Tryz.prog 129 #[.string (bs h.text)] w fun e w' => ∃ A c, e = .returned (.tuple #[h.val A c, .int .i64 0]) ∧ h.At w' A c ∧ Below w.heap.size w w' := by
  have hv := HD.valid_of hvb
  have hlay : ∀ (A : Option Addr) (c : Nat) (W : World), h.At W A c → Calls Tryz.prog 161 #[h.val A c] W fun e w' => e = .returned (.tuple #[.string (bs h.text), .int .i64 0]) ∧ Below W.heap.size W w' := fun A c W ha => by
    have := hlay_any h A c W ha
    rwa [if_pos hvb] at this
  have hparse := hparse_any h hv
  obtain ⟨X, hX⟩ : ∃ X, X = bs h.text := ⟨_, rfl⟩
  have hXs : X.size = 256 := by rw [hX, bs_size, hv.text_len]
  obtain ⟨Y, hY⟩ : ∃ Y, Y = bs (body 256 h.bytes) := ⟨_, rfl⟩
  have HOPEN : Hid (∀ W, Calls Tryz.prog 131 #[.string X] W fun e w' => e = .returned (.tuple #[.string Y, .int .i64 0]) ∧ Below W.heap.size W w') := Lib.hid (fun W => by
    have h1 := open_any X W (by omega)
    have e : openV X.data.toList = .tuple #[.string Y, .int .i64 0] := by rw [hX, bs_list]; unfold openV; rw [HD.opened, hY]; rfl
    rwa [e] at h1)
  obtain ⟨Z, hZ⟩ : ∃ Z : ByteArray, Z = ⟨(Lib.trimB X.data.toList 0).toArray⟩ := ⟨_, rfl⟩
  have hZe : Z.toList.isEmpty = false := by
    rw [hZ, Lib.toList_data]
    show (Lib.trimB X.data.toList 0).isEmpty = false
    apply trim_keeps
    rw [hX, bs_list]
    obtain ⟨r, hr⟩ := h.text_first
    rw [hr]
    simp
  have HTRIM : Hid (∀ W, Calls Tryz.prog 162 #[.string X, .string ⟨#[0]⟩] W fun e w' => e = .returned (.string Z) ∧ Below W.heap.size W w') := Lib.hid (fun W => by
    refine (h_strings_Trim_one X 0 (by decide) W (by omega)).mono ?_
    rintro e w' ⟨rfl, hw | hw⟩
    · exact ⟨by rw [hZ], hw ▸ Below.refl _ _⟩
    · exact ⟨by rw [hZ], by rw [hw]; exact (Below.refl _ _).drew⟩)
  rw [← hX] at hlay ⊢
  rw [← hY] at hparse
  have HLAY := Lib.hid hlay
  have HPARSE := Lib.hid hparse
  have hXI : (X.size : Int) = 256 := by omega
  clear hvb hv hlay hparse hX hXs hY hZ
  go_enter Tryz.func129, Tryz.ntmps129
  go_wp2_with fail
  refine (HTRIM.out _).mono ?_
  rintro e w1 ⟨rfl, hb1⟩
  have HR1 : Hid (Blk w1 w.heap.size 161 #[.int .i64 0, .bool false, .slice none 0 0]) := Lib.hid ((Blk.new w _ _).below hb1 (by simp))
  have HB1 : Hid (Below w.heap.size w w1) := Lib.hid (((Below.refl _ _).alloc (Nat.le_refl _) _).trans (hb1.mono (by simp)))
  clear hb1
  go_wp2_with fail
  refine (HOPEN.out _).mono ?_
  rintro e w2 ⟨rfl, hb2⟩
  have HR2 : Hid (Blk w2 w.heap.size 161 #[.int .i64 0, .bool false, .slice none 0 0]) := Lib.hid (HR1.out.below hb2 HR1.out.lt)
  have HB2 : Hid (Below w.heap.size w w2) := Lib.hid (HB1.out.trans (hb2.mono HB1.out.size))
  clear hb2 hZe
  go_wp2_with fail
  refine (HPARSE.out _).mono ?_
  rintro e w3 ⟨A, c, rfl, ha, hAb, hb3⟩
  have HAB : Hid (∀ b off, A = some ⟨b, off, none⟩ → w.heap.size < b) := Lib.hid (fun b off e => by have := hAb b off e; have := HR2.out.lt; omega)
  have HR3 : Hid (Blk w3 w.heap.size 161 #[.int .i64 0, .bool false, .slice none 0 0]) := Lib.hid (HR2.out.below hb3 HR2.out.lt)
  have HB3 : Hid (Below w.heap.size w w3) := Lib.hid (HB2.out.trans (hb3.mono HB2.out.size))
  have HAT := Lib.hid ha
  clear ha hAb hb3
  have HL := Lib.hid (fun W => HLAY.out A c W)
  obtain ⟨seq, full, ts⟩ := h
  unfold HD.val at HL ⊢
  simp only at HL ⊢
  obtain ⟨n, hn⟩ : ∃ n, n = ts.length := ⟨_, rfl⟩
  rw [← hn] at HL ⊢
  have HN := Lib.hid hn
  clear hn HLAY HPARSE
  go_wp2_with fail
  have hal : (HD.mk seq full ts).At (w3.alloc (.cells #[.int .i64 seq, .bool full, .slice A n c] 161)) A c := HAT.out.below ((Below.refl _ _).alloc (Nat.le_refl _) _)
  refine (HL.out _ hal).mono ?_
  rintro e w4 ⟨rfl, hb4⟩
  have bh : Blk w4 w3.heap.size 161 #[.int .i64 seq, .bool full, .slice A n c] := (Blk.new w3 _ _).below hb4 (by simp)
  have br : Blk w4 w.heap.size 161 #[.int .i64 0, .bool false, .slice none 0 0] := HR3.out.below (((Below.refl _ _).alloc (Nat.le_refl _) _).trans (hb4.mono (by simp))) HR3.out.lt
  have HBR := Lib.hid br
  have HB4 : Hid (Below w.heap.size w w4) := Lib.hid ((HB3.out.alloc HB3.out.size _).trans (hb4.mono (by have := HB3.out.size; simp; omega)))
  have HA4 := Lib.hid (hal.below hb4).lie
  have c0 := bh.cell 0
  have c1 := bh.cell 1
  have c2 := bh.cell 2
  have r0 := br.cell 0
  have r1 := br.cell 1
  have r2 := br.cell 2
  have f0 := br.frozen 0
  have f1 := br.frozen 1
  have f2 := br.frozen 2
  simp at c0 c1 c2 r0 r1 r2
  clear hb4 hal bh br
  go_wp2_with fail
  have b3 := ((HBR.out.put 0 (.int .i64 seq)).put 1 (.bool full)).put 2 (.slice A n c)
  refine hret_cell2 rfl rfl (head_var b3) rfl rfl ?_
  refine ⟨A, c, by rw [HN.out]; rfl, ⟨fun hp => ?_, HAT.out.few⟩, ((HB4.out.setCell (Nat.le_refl _) _).setCell (Nat.le_refl _) _).setCell (Nat.le_refl _) _⟩
  obtain ⟨b, off, e, hbl, hc⟩ := HA4.out hp
  have hne : b ≠ w.heap.size := fun eb => by have := HAB.out b off e; omega
  refine ⟨b, off, e, by simpa [World.setCell] using hbl, fun i x hx => ?_⟩
  rw [World.cell?_of_block (w := w4) ((Below.heap_setCell _ _ _ _ (fun e => hne e)).trans ((Below.heap_setCell _ _ _ _ (fun e => hne e)).trans (Below.heap_setCell _ _ _ _ (fun e => hne e))))]
  exact hc i x hx
end Go.Proofs.YtolbnkpakjdnnaaGreatDoor

namespace Go.Proofs.YtolbnkpakjdnnaaGreatDoor
open Go.RowKit

theorem trim_none {l : List UInt8} : (Lib.trimB l 0).isEmpty = l.all (· == 0) := by
  cases h : l.all (· == 0) with
  | true =>
    unfold Lib.trimB Lib.trimLeftB Lib.trimRightB
    have h1 : l.reverse.dropWhile (· == 0) = [] := by
      have hh : ∀ r : List UInt8, r.all (· == 0) = true → r.dropWhile (· == 0) = [] := fun r => by
        induction r with
        | nil => intro _; rfl
        | cons x r ih =>
          intro h
          rw [List.all_cons, Bool.and_eq_true] at h
          rw [List.dropWhile_cons, if_pos h.1]
          exact ih h.2
      exact hh _ (by rw [List.all_reverse]; exact h)
    rw [h1]
    rfl
  | false =>
    obtain ⟨x, hx, hp⟩ : ∃ x ∈ l, (x == (0 : UInt8)) = false := by
      have h := h
      rw [List.all_eq_false] at h
      obtain ⟨x, hx, hp⟩ := h
      exact ⟨x, hx, by simpa using hp⟩
    unfold Lib.trimB Lib.trimLeftB Lib.trimRightB
    have h1 : x ∈ (l.reverse.dropWhile (· == 0)).reverse := by
      rw [List.mem_reverse]
      exact dropWhile_keeps _ x (by rw [List.mem_reverse]; exact hx) hp
    have h2 := dropWhile_keeps (· == 0) x h1 hp
    cases h : ((l.reverse.dropWhile (· == 0)).reverse.dropWhile (· == 0)) with
    | nil => rw [h] at h2; cases h2
    | cons _ _ => rfl
theorem row_ints {w : World} {base : Nat} {A : Option Addr} {c : Nat} {l : List Int} (h : w.ownsRow base 3 1 (.slice A l.length c) l.length (l.map (Value.int .i64))) : Ints w w.heap.size A l := fun hp => by
  obtain ⟨gv, cap, e, _, hlt2⟩ := h.form hp
  injection e with e1 _ e3
  subst e1 e3
  refine ⟨gv, 0, rfl, hlt2, fun i x hx => ?_⟩
  have hc := h.cells (g := gv) rfl i (.int .i64 x) (by rw [List.getElem?_map, hx]; rfl)
  rwa [add_off] at hc
theorem row_lower {w : World} {base base' : Nat} {e : TypeId} {size : Nat} {v : Value} {n : Nat} {xs : List Value} (h : w.ownsRow base e size v n xs) (hb : base' ≤ base) : w.ownsRow base' e size v n xs := by
  refine ⟨h.1, ?_⟩
  rcases h.2 with hn | ⟨g, cap, cur, rfl, hb1, rest⟩
  · exact .inl hn
  · exact .inr ⟨g, cap, cur, rfl, by omega, rest⟩
def HD.zero : HD := ⟨0, false, []⟩
/-- What Read answers. -/
def readHD (b : List UInt8) : HD × Int :=
  if b.length ≠ 256 then (HD.zero, 5)
  else if b.all (· == 0) then (HD.zero, 0)
  else if (openB b).2 ≠ 0 then (HD.zero, (openB b).2)
  else if (parseHD (bs (openB b).1)).validB = true ∧ (parseHD (bs (openB b).1)).text = b then (parseHD (bs (openB b).1), 0) else (HD.zero, 6)

set_option maxRecDepth 100000 in
set_option maxHeartbeats 4000000 in
theorem hread_own (X : ByteArray) (w : World) :
    Calls Tryz.prog 129 #[.string X] w fun e w' => ∃ A c, e = .returned (.tuple #[(readHD X.data.toList).1.val A c, .int .i64 (readHD X.data.toList).2]) ∧ w'.ownsRow w.heap.size 3 1 (.slice A (readHD X.data.toList).1.ts.length c) (readHD X.data.toList).1.ts.length ((readHD X.data.toList).1.ts.map (Value.int .i64)) ∧ (readHD X.data.toList).1.ts.length ≤ 110 ∧ Below w.heap.size w w' := by
  have hlen : X.data.toList.length = X.size := (Lib.size_eq X).symm
  obtain ⟨Q, hQ⟩ : ∃ Q, Q = readHD X.data.toList := ⟨_, rfl⟩
  rw [← hQ]
  have R0 : Blk (w.alloc (.cells #[.int .i64 0, .bool false, .slice none 0 0] 161)) w.heap.size 161 #[.int .i64 0, .bool false, .slice none 0 0] := Blk.new w _ _
  have B0 : Below w.heap.size w (w.alloc (.cells #[.int .i64 0, .bool false, .slice none 0 0] 161)) := (Below.refl _ _).alloc (Nat.le_refl _) _
  by_cases h1 : X.size = 256
  · have hXI : (X.size : Int) = 256 := by omega
    obtain ⟨Z, hZ⟩ : ∃ Z : ByteArray, Z = ⟨(Lib.trimB X.data.toList 0).toArray⟩ := ⟨_, rfl⟩
    have hZe : Z.toList.isEmpty = X.data.toList.all (· == 0) := by
      rw [hZ, Lib.toList_data]
      exact trim_none
    have HTRIM : Hid (∀ W, Calls Tryz.prog 162 #[.string X, .string ⟨#[0]⟩] W fun e w' => e = .returned (.string Z) ∧ Below W.heap.size W w') := Lib.hid (fun W => by
      refine (h_strings_Trim_one X 0 (by decide) W (by omega)).mono ?_
      rintro e w' ⟨rfl, hw | hw⟩
      · exact ⟨by rw [hZ], hw ▸ Below.refl _ _⟩
      · exact ⟨by rw [hZ], by rw [hw]; exact (Below.refl _ _).drew⟩)
    by_cases h2 : X.data.toList.all (· == 0) = true
    · have E : Q = (HD.zero, 0) := by rw [hQ]; unfold readHD; rw [if_neg (by omega), if_pos h2]
      subst E
      rw [h2] at hZe
      have HR0 := Lib.hid R0
      have HB0 := Lib.hid B0
      clear hQ hlen hZ h2 R0 B0
      go_enter Tryz.func129, Tryz.ntmps129
      go_wp2_with fail
      refine (HTRIM.out _).mono ?_
      rintro e w1 ⟨rfl, hb1⟩
      have HR1 := Lib.hid (HR0.out.below hb1 HR0.out.lt)
      have HB1 := Lib.hid (HB0.out.trans (hb1.mono HB0.out.size))
      clear hb1
      have r0 := HR1.out.cell 0
      have r1 := HR1.out.cell 1
      have r2 := HR1.out.cell 2
      have f0 := HR1.out.frozen 0
      have f1 := HR1.out.frozen 1
      have f2 := HR1.out.frozen 2
      simp at r0 r1 r2
      go_wp2_with fail
      have b3 := ((HR1.out.put 0 (.int .i64 0)).put 1 (.bool false)).put 2 (.slice none 0 0)
      refine hret_cell2 rfl rfl (head_var b3) rfl rfl ?_
      exact ⟨none, 0, rfl, World.ownsRow_nil _ _ _ _, by decide, ((HB1.out.setCell (Nat.le_refl _) _).setCell (Nat.le_refl _) _).setCell (Nat.le_refl _) _⟩
    · have h2' : X.data.toList.all (· == 0) = false := by simpa using h2
      rw [h2'] at hZe
      obtain ⟨O, hO⟩ : ∃ O, O = openB X.data.toList := ⟨_, rfl⟩
      obtain ⟨Y, hY⟩ : ∃ Y : ByteArray, Y = ⟨O.1.toArray⟩ := ⟨_, rfl⟩
      have HOPEN : Hid (∀ W, Calls Tryz.prog 131 #[.string X] W fun e w' => e = .returned (.tuple #[.string Y, .int .i64 O.2]) ∧ Below W.heap.size W w') := Lib.hid (fun W => by
        have h1 := open_any X W (by omega)
        have e : openV X.data.toList = .tuple #[.string Y, .int .i64 O.2] := by unfold openV; rw [← hO, hY]
        rwa [e] at h1)
      by_cases h3 : O.2 = 0
      · obtain ⟨h, hh⟩ : ∃ h, h = parseHD (bs O.1) := ⟨_, rfl⟩
        have E : Q = if h.validB = true ∧ h.text = X.data.toList then (h, 0) else (HD.zero, 6) := by rw [hQ]; unfold readHD; rw [if_neg (by omega), if_neg h2, ← hO, if_neg (by omega), ← hh]
        have hYY : Y = bs O.1 := by rw [hY]; rfl
        have hYs : Y.size ≤ 1000000 := by
          rw [hYY, bs_size, hO]
          unfold openB
          split
          · simp
          · split
            · simp; omega
            · simp
        have HPARSE : Hid (∀ W, Calls Tryz.prog 163 #[.string Y] W fun e w' => ∃ A c, e = .returned (h.val A c) ∧ w'.ownsRow W.heap.size 3 1 (.slice A h.ts.length c) h.ts.length (h.ts.map (Value.int .i64)) ∧ h.ts.length ≤ 110 ∧ Below W.heap.size W w') := Lib.hid (fun W => by
          have := hparse_own Y hYs W
          rwa [show parseHD Y = h by rw [hh, hYY]] at this)
        obtain ⟨L, hL⟩ : ∃ L : ByteArray × Int, L = if h.validB then (bs h.text, 0) else (⟨#[]⟩, 1) := ⟨_, rfl⟩
        have hlay : ∀ (A : Option Addr) (c : Nat) (W : World), h.At W A c → Calls Tryz.prog 161 #[h.val A c] W fun e w' => e = .returned (.tuple #[.string L.1, .int .i64 L.2]) ∧ Below W.heap.size W w' := fun A c W ha => by
          have := hlay_any h A c W ha
          have e : (if h.validB then Value.tuple #[.string (bs h.text), .int .i64 0] else .tuple #[.string ⟨#[]⟩, .int .i64 1]) = .tuple #[.string L.1, .int .i64 L.2] := by rw [hL]; split <;> rfl
          rwa [e] at this
        have hcmp : ∀ ok : Bool, ok = decide (h.validB = true ∧ h.text = X.data.toList) → (L.1.toList == X.toList) = ok := fun ok hk => by
          rw [hk, hL]
          cases hv : h.validB with
          | true =>
            simp only [if_true, Lib.toList_data, bs_list, true_and]
            rw [Bool.eq_iff_iff]
            simp
          | false =>
            simp only [Bool.false_eq_true, if_false, false_and, decide_false, Lib.toList_data]
            refine beq_eq_false_iff_ne.2 (fun e => ?_)
            have := congrArg List.length e
            simp at this
            omega
        have HLAY := Lib.hid hlay
        by_cases h4 : h.validB = true ∧ h.text = X.data.toList
        · rw [if_pos h4] at E
          subst E
          have hc := hcmp true (decide_eq_true h4).symm
          simp only
          obtain ⟨seq, full, ts⟩ := h
          obtain ⟨n, hn⟩ : ∃ n, n = ts.length := ⟨_, rfl⟩
          unfold HD.val at HPARSE HLAY ⊢
          simp only at HPARSE HLAY ⊢
          rw [← hn] at HPARSE HLAY ⊢
          have HN := Lib.hid hn
          have HR0 := Lib.hid R0
          have HB0 := Lib.hid B0
          clear hQ hlen hZ h2 R0 B0 h2' hO hY hYY hYs hh hL hlay hcmp h4 hn
          go_enter Tryz.func129, Tryz.ntmps129
          go_wp2_with fail
          refine (HTRIM.out _).mono ?_
          rintro e w1 ⟨rfl, hb1⟩
          have HR1 := Lib.hid (HR0.out.below hb1 HR0.out.lt)
          have HB1 := Lib.hid (HB0.out.trans (hb1.mono HB0.out.size))
          clear hb1
          go_wp2_with fail
          refine (HOPEN.out _).mono ?_
          rintro e w2 ⟨rfl, hb2⟩
          have HR2 := Lib.hid (HR1.out.below hb2 HR1.out.lt)
          have HB2 := Lib.hid (HB1.out.trans (hb2.mono HB1.out.size))
          clear hb2 hZe
          go_wp2_with fail
          refine (HPARSE.out _).mono ?_
          rintro e w3 ⟨A, c, rfl, hrw, hfew, hb3⟩
          have hr3 := HR2.out.below hb3 HR2.out.lt
          have HR3 := Lib.hid hr3
          have HB3 := Lib.hid (HB2.out.trans (hb3.mono HB2.out.size))
          have HLT : Hid (w.heap.size < w2.heap.size) := Lib.hid HR2.out.lt
          have HBW : Hid (w.heap.size ≤ w2.heap.size) := Lib.hid HB2.out.size
          have hat : (HD.mk seq full ts).At w3 A c := by
            have hh : w3.ownsRow w2.heap.size 3 1 (.slice A ts.length c) ts.length (ts.map (Value.int .i64)) := by rw [← HN.out]; exact hrw
            exact ⟨row_ints hh, by show ts.length ≤ _; rw [← HN.out]; omega⟩
          have HFEW := Lib.hid hfew
          have HAT := Lib.hid hat
          have HRW0 := Lib.hid hrw
          have HL := Lib.hid (fun W => HLAY.out A c W)
          clear hrw hfew hb3 hr3 hat HLAY HPARSE
          go_wp2_with fail
          have hal : (HD.mk seq full ts).At (w3.alloc (.cells #[.int .i64 seq, .bool full, .slice A n c] 161)) A c := HAT.out.below ((Below.refl _ _).alloc (Nat.le_refl _) _)
          refine (HL.out _ hal).mono ?_
          rintro e w4 ⟨rfl, hb4⟩
          have bh : Blk w4 w3.heap.size 161 #[.int .i64 seq, .bool full, .slice A n c] := (Blk.new w3 _ _).below hb4 (by simp)
          have br : Blk w4 w.heap.size 161 #[.int .i64 0, .bool false, .slice none 0 0] := HR3.out.below (((Below.refl _ _).alloc (Nat.le_refl _) _).trans (hb4.mono (by simp))) HR3.out.lt
          have HBR := Lib.hid br
          have HB4 : Hid (Below w.heap.size w w4) := Lib.hid ((HB3.out.alloc HB3.out.size _).trans (hb4.mono (by have := HB3.out.size; simp; omega)))
          have HRW : Hid (w4.ownsRow w2.heap.size 3 1 (.slice A n c) n (ts.map (Value.int .i64))) := Lib.hid (row_kept' HRW0.out (fun k e => by
            have hk := (HRW0.out.lt k e).2
            exact ((((Below.refl w3.heap.size w3).alloc (Nat.le_refl _) _).trans (hb4.mono (by simp))).block k hk)))
          have c0 := bh.cell 0
          have c1 := bh.cell 1
          have c2 := bh.cell 2
          have r0 := br.cell 0
          have r1 := br.cell 1
          have r2 := br.cell 2
          have f0 := br.frozen 0
          have f1 := br.frozen 1
          have f2 := br.frozen 2
          simp at c0 c1 c2 r0 r1 r2
          clear hb4 hal bh br
          go_wp2_with fail
          have b3 := ((HBR.out.put 0 (.int .i64 seq)).put 1 (.bool full)).put 2 (.slice A n c)
          refine hret_cell2 rfl rfl (head_var b3) rfl rfl ?_
          refine ⟨A, c, rfl, row_lower (row_kept' HRW.out (fun q e => ?_)) HBW.out, HFEW.out, ((HB4.out.setCell (Nat.le_refl _) _).setCell (Nat.le_refl _) _).setCell (Nat.le_refl _) _⟩
          have hne : q ≠ w.heap.size := fun e2 => by have := (HRW.out.lt q e).1; have := HLT.out; omega
          exact (Below.heap_setCell _ _ _ _ (fun e => hne e)).trans ((Below.heap_setCell _ _ _ _ (fun e => hne e)).trans (Below.heap_setCell _ _ _ _ (fun e => hne e)))
        · rw [if_neg h4] at E
          subst E
          have hc := hcmp false (decide_eq_false h4).symm
          simp only
          obtain ⟨seq, full, ts⟩ := h
          obtain ⟨n, hn⟩ : ∃ n, n = ts.length := ⟨_, rfl⟩
          unfold HD.val at HPARSE HLAY
          simp only at HPARSE HLAY
          rw [← hn] at HPARSE HLAY
          have HN := Lib.hid hn
          have HR0 := Lib.hid R0
          have HB0 := Lib.hid B0
          clear hQ hlen hZ h2 R0 B0 h2' hO hY hYY hYs hh hL hlay hcmp h4 hn
          go_enter Tryz.func129, Tryz.ntmps129
          go_wp2_with fail
          refine (HTRIM.out _).mono ?_
          rintro e w1 ⟨rfl, hb1⟩
          have HR1 := Lib.hid (HR0.out.below hb1 HR0.out.lt)
          have HB1 := Lib.hid (HB0.out.trans (hb1.mono HB0.out.size))
          clear hb1
          go_wp2_with fail
          refine (HOPEN.out _).mono ?_
          rintro e w2 ⟨rfl, hb2⟩
          have HR2 := Lib.hid (HR1.out.below hb2 HR1.out.lt)
          have HB2 := Lib.hid (HB1.out.trans (hb2.mono HB1.out.size))
          clear hb2 hZe
          go_wp2_with fail
          refine (HPARSE.out _).mono ?_
          rintro e w3 ⟨A, c, rfl, hrw, hfew, hb3⟩
          have hr3 := HR2.out.below hb3 HR2.out.lt
          have HR3 := Lib.hid hr3
          have HB3 := Lib.hid (HB2.out.trans (hb3.mono HB2.out.size))
          have HLT : Hid (w.heap.size < w2.heap.size) := Lib.hid HR2.out.lt
          have HBW : Hid (w.heap.size ≤ w2.heap.size) := Lib.hid HB2.out.size
          have hat : (HD.mk seq full ts).At w3 A c := by
            have hh : w3.ownsRow w2.heap.size 3 1 (.slice A ts.length c) ts.length (ts.map (Value.int .i64)) := by rw [← HN.out]; exact hrw
            exact ⟨row_ints hh, by show ts.length ≤ _; rw [← HN.out]; omega⟩
          have HFEW := Lib.hid hfew
          have HAT := Lib.hid hat
          have HRW0 := Lib.hid hrw
          have HL := Lib.hid (fun W => HLAY.out A c W)
          clear hrw hfew hb3 hr3 hat HLAY HPARSE
          go_wp2_with fail
          have hal : (HD.mk seq full ts).At (w3.alloc (.cells #[.int .i64 seq, .bool full, .slice A n c] 161)) A c := HAT.out.below ((Below.refl _ _).alloc (Nat.le_refl _) _)
          refine (HL.out _ hal).mono ?_
          rintro e w4 ⟨rfl, hb4⟩
          have bh : Blk w4 w3.heap.size 161 #[.int .i64 seq, .bool full, .slice A n c] := (Blk.new w3 _ _).below hb4 (by simp)
          have br : Blk w4 w.heap.size 161 #[.int .i64 0, .bool false, .slice none 0 0] := HR3.out.below (((Below.refl _ _).alloc (Nat.le_refl _) _).trans (hb4.mono (by simp))) HR3.out.lt
          have HBR := Lib.hid br
          have HB4 : Hid (Below w.heap.size w w4) := Lib.hid ((HB3.out.alloc HB3.out.size _).trans (hb4.mono (by have := HB3.out.size; simp; omega)))
          have HRW : Hid (w4.ownsRow w2.heap.size 3 1 (.slice A n c) n (ts.map (Value.int .i64))) := Lib.hid (row_kept' HRW0.out (fun k e => by
            have hk := (HRW0.out.lt k e).2
            exact ((((Below.refl w3.heap.size w3).alloc (Nat.le_refl _) _).trans (hb4.mono (by simp))).block k hk)))
          have c0 := bh.cell 0
          have c1 := bh.cell 1
          have c2 := bh.cell 2
          have r0 := br.cell 0
          have r1 := br.cell 1
          have r2 := br.cell 2
          have f0 := br.frozen 0
          have f1 := br.frozen 1
          have f2 := br.frozen 2
          simp at c0 c1 c2 r0 r1 r2
          clear hb4 hal bh br
          go_wp2_with fail
          have b3 := ((HBR.out.put 0 (.int .i64 0)).put 1 (.bool false)).put 2 (.slice none 0 0)
          refine hret_cell2 rfl rfl (head_var b3) rfl rfl ?_
          exact ⟨none, 0, rfl, World.ownsRow_nil _ _ _ _, by decide, ((HB4.out.setCell (Nat.le_refl _) _).setCell (Nat.le_refl _) _).setCell (Nat.le_refl _) _⟩
      · have E : Q = (HD.zero, O.2) := by rw [hQ]; unfold readHD; rw [if_neg (by omega), if_neg h2, ← hO, if_pos h3]
        subst E
        obtain ⟨x, hx⟩ : ∃ x, x = O.2 := ⟨_, rfl⟩
        rw [← hx] at HOPEN h3 ⊢
        have h3' : (x != 0) = true := by rw [bne_iff_ne]; exact h3
        have HR0 := Lib.hid R0
        have HB0 := Lib.hid B0
        clear hQ hlen hZ h2 R0 B0 h2' hO hY hx
        go_enter Tryz.func129, Tryz.ntmps129
        go_wp2_with fail
        refine (HTRIM.out _).mono ?_
        rintro e w1 ⟨rfl, hb1⟩
        have HR1 := Lib.hid (HR0.out.below hb1 HR0.out.lt)
        have HB1 := Lib.hid (HB0.out.trans (hb1.mono HB0.out.size))
        clear hb1
        go_wp2_with fail
        refine (HOPEN.out _).mono ?_
        rintro e w2 ⟨rfl, hb2⟩
        have HR2 := Lib.hid (HR1.out.below hb2 HR1.out.lt)
        have HB2 := Lib.hid (HB1.out.trans (hb2.mono HB1.out.size))
        clear hb2
        have r0 := HR2.out.cell 0
        have r1 := HR2.out.cell 1
        have r2 := HR2.out.cell 2
        have f0 := HR2.out.frozen 0
        have f1 := HR2.out.frozen 1
        have f2 := HR2.out.frozen 2
        simp at r0 r1 r2
        go_wp2_with fail
        have b3 := ((HR2.out.put 0 (.int .i64 0)).put 1 (.bool false)).put 2 (.slice none 0 0)
        refine hret_cell2 rfl rfl (head_var b3) rfl rfl ?_
        exact ⟨none, 0, rfl, World.ownsRow_nil _ _ _ _, by decide, ((HB2.out.setCell (Nat.le_refl _) _).setCell (Nat.le_refl _) _).setCell (Nat.le_refl _) _⟩
  · have h1' : ¬ (X.size : Int) = 256 := by omega
    have h1b : ((X.size : Int) != 256) = true := by rw [bne_iff_ne]; exact h1'
    have E : Q = (HD.zero, 5) := by rw [hQ]; unfold readHD; rw [if_pos (by omega)]
    subst E
    have HR0 := Lib.hid R0
    have HB0 := Lib.hid B0
    clear hQ hlen R0 B0
    have r0 := HR0.out.cell 0
    have r1 := HR0.out.cell 1
    have r2 := HR0.out.cell 2
    have f0 := HR0.out.frozen 0
    have f1 := HR0.out.frozen 1
    have f2 := HR0.out.frozen 2
    simp at r0 r1 r2
    go_enter Tryz.func129, Tryz.ntmps129
    go_wp2_with fail
    refine hret_cell2 rfl rfl (head_var HR0.out) rfl rfl ?_
    exact ⟨none, 0, rfl, World.ownsRow_nil _ _ _ _, by decide, HB0.out⟩
end Go.Proofs.YtolbnkpakjdnnaaGreatDoor
