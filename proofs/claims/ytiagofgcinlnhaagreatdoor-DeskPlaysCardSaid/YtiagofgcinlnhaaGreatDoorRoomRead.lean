/-
  Package room's Read, of any bytes. No statement is proved here.
-/
import Derived.Shelf.SlGeneric
import Derived.Shelf.SlSortCmp.NoneTotal
import Derived.Shelf.SlMaps.Clone
import Derived.Ground.SlsfProg
import Derived.Ground.SlmcProg
import Derived.Ground.NamesProg
import Derived.Test.YtiagofgcinlnhaaGreatDoorWalAlive
import Derived.Test.YtiagofgcinlnhaaGreatDoorDiskAlive
import Derived.Laws.BitsAllLaws
import Derived.Test.YtiagofgcinlnhaaGreatDoorWalSmall
import Derived.Test.YtiagofgcinlnhaaGreatDoorHeadRead
namespace Go.Proofs.YtiagofgcinlnhaaGreatDoor
open Go.Shelf
def h_sortf_ren : Go.Shelf.Ren := ⟨fun | 6 => 87 | 15 => 118 | 14 => 117 | 28 => 145 | 29 => 146 | 20 => 137 | 21 => 138 | 22 => 139 | 23 => 140 | 24 => 141 | 25 => 142 | 26 => 143 | 27 => 144 | 46 => 162 | 47 => 163 | 48 => 164 | 49 => 165 | 50 => 166 | 57 => 175 | n => n, fun | 22 => 73 | 24 => 90 | 25 => 134 | 3 => 3 | 39 => 102 | 0 => 0 | 53 => 154 | 55 => 121 | 4 => 4 | 46 => 186 | 45 => 185 | 50 => 190 | 5 => 5 | 9 => 9 | 66 => 208 | 70 => 212 | 76 => 223 | 77 => 224 | n => n, fun | n => n⟩
theorem h_sortf : Go.Proofs.SlLaysF0.n6 Tryz.prog h_sortf_ren := {
  mixed := by kernel_rfl
  f6 := ⟨Tryz.f87.name, by decide, Tryz.func87.trans (congrArg some (by kernel_rfl))⟩
  f14 := ⟨Tryz.f117.name, by decide, Tryz.func117.trans (congrArg some (by kernel_rfl))⟩
  f15 := Tryz.func118.trans (congrArg some (by kernel_rfl))
  f20 := ⟨Tryz.f137.name, by decide, Tryz.func137.trans (congrArg some (by kernel_rfl))⟩
  f21 := ⟨Tryz.f138.name, by decide, Tryz.func138.trans (congrArg some (by kernel_rfl))⟩
  f22 := ⟨Tryz.f139.name, by decide, Tryz.func139.trans (congrArg some (by kernel_rfl))⟩
  f23 := ⟨Tryz.f140.name, by decide, Tryz.func140.trans (congrArg some (by kernel_rfl))⟩
  f24 := ⟨Tryz.f141.name, by decide, Tryz.func141.trans (congrArg some (by kernel_rfl))⟩
  f25 := ⟨Tryz.f142.name, by decide, Tryz.func142.trans (congrArg some (by kernel_rfl))⟩
  f26 := ⟨Tryz.f143.name, by decide, Tryz.func143.trans (congrArg some (by kernel_rfl))⟩
  f27 := ⟨Tryz.f144.name, by decide, Tryz.func144.trans (congrArg some (by kernel_rfl))⟩
  f28 := Tryz.func145.trans (congrArg some (by kernel_rfl))
  f29 := Tryz.func146.trans (congrArg some (by kernel_rfl))
  f46 := ⟨Tryz.f162.name, by decide, Tryz.func162.trans (congrArg some (by kernel_rfl))⟩
  f47 := Tryz.func163.trans (congrArg some (by kernel_rfl))
  f48 := Tryz.func164.trans (congrArg some (by kernel_rfl))
  f49 := ⟨Tryz.f165.name, by decide, Tryz.func165.trans (congrArg some (by kernel_rfl))⟩
  f50 := ⟨Tryz.f166.name, by decide, Tryz.func166.trans (congrArg some (by kernel_rfl))⟩
  f57 := ⟨Tryz.f175.name, by decide, Tryz.func175.trans (congrArg some (by kernel_rfl))⟩
  t0 := Tryz.underlying0
  a0 := Tryz.isAgg0
  z0 := Tryz.sizeOf0
  v0 := Tryz.zeroValue0
  t3 := Tryz.underlying3
  a3 := Tryz.isAgg3
  z3 := Tryz.sizeOf3
  v3 := Tryz.zeroValue3
  t4 := Tryz.underlying4
  a4 := Tryz.isAgg4
  z4 := Tryz.sizeOf4
  v4 := Tryz.zeroValue4
  t5 := Tryz.underlying5
  a5 := Tryz.isAgg5
  z5 := Tryz.sizeOf5
  v5 := Tryz.zeroValue5
  t9 := Tryz.underlying9
  a9 := Tryz.isAgg9
  z9 := Tryz.sizeOf9
  v9 := Tryz.zeroValue9
  t22 := Tryz.underlying73
  a22 := Tryz.isAgg73
  z22 := Tryz.sizeOf73
  v22 := Tryz.zeroValue73
  t25 := Tryz.underlying134
  a25 := Tryz.isAgg134
  z25 := Tryz.sizeOf134
  v25 := Tryz.zeroValue134
  t39 := Tryz.underlying102
  a39 := Tryz.isAgg102
  z39 := Tryz.sizeOf102
  v39 := Tryz.zeroValue102
  t45 := Tryz.underlying185
  a45 := Tryz.isAgg185
  z45 := Tryz.sizeOf185
  v45 := Tryz.zeroValue185
  t46 := Tryz.underlying186
  a46 := Tryz.isAgg186
  z46 := Tryz.sizeOf186
  v46 := Tryz.zeroValue186
  t50 := Tryz.underlying190
  a50 := Tryz.isAgg190
  z50 := Tryz.sizeOf190
  v50 := Tryz.zeroValue190
  t53 := Tryz.underlying154
  a53 := Tryz.isAgg154
  z53 := Tryz.sizeOf154
  v53 := Tryz.zeroValue154
  t55 := Tryz.underlying121
  a55 := Tryz.isAgg121
  z55 := Tryz.sizeOf121
  v55 := Tryz.zeroValue121
  t66 := Tryz.underlying208
  a66 := Tryz.isAgg208
  z66 := Tryz.sizeOf208
  v66 := Tryz.zeroValue208
  t70 := Tryz.underlying212
  a70 := Tryz.isAgg212
  z70 := Tryz.sizeOf212
  v70 := Tryz.zeroValue212
  t76 := Tryz.underlying223
  a76 := Tryz.isAgg223
  z76 := Tryz.sizeOf223
  v76 := Tryz.zeroValue223
  t77 := Tryz.underlying224
  a77 := Tryz.isAgg224
  z77 := Tryz.sizeOf224
  v77 := Tryz.zeroValue224 }
def h_clone_ren : Go.Shelf.Ren := ⟨fun | 5 => 52 | 7 => 84 | n => n, fun | 23 => 33 | 25 => 3 | 3 => 90 | 4 => 4 | 20 => 20 | n => n, fun | n => n⟩
theorem h_clone : Go.Proofs.SlLaysW.n5 Tryz.prog h_clone_ren := {
  mixed := by kernel_rfl
  f5 := ⟨Tryz.f52.name, by decide, Tryz.func52.trans (congrArg some (by kernel_rfl))⟩
  f7 := Tryz.func84.trans (congrArg some (by kernel_rfl))
  t4 := Tryz.underlying4
  a4 := Tryz.isAgg4
  z4 := Tryz.sizeOf4
  v4 := Tryz.zeroValue4
  t20 := Tryz.underlying20
  a20 := Tryz.isAgg20
  z20 := Tryz.sizeOf20
  v20 := Tryz.zeroValue20
  t23 := Tryz.underlying33
  a23 := Tryz.isAgg33
  z23 := Tryz.sizeOf33
  v23 := Tryz.zeroValue33 }
open Go.RowKit
def bytesP (P : Nat → Bool) (m : Nat) : List UInt8 := (List.range m).map fun k => (byteP P k).toUInt8
theorem bytesP_length (P : Nat → Bool) (m : Nat) : (bytesP P m).length = m := by simp [bytesP]
def roomE (n : Nat) (H : List Int) : List UInt8 := lowBytes 1 6 ++ (lowBytes 2 n ++ bytesP (inP H) 238)
theorem roomE_length (n : Nat) (H : List Int) : (roomE n H).length = 241 := by
  unfold roomE
  rw [List.length_append, List.length_append, lowBytes_length, lowBytes_length, bytesP_length]
def roomT (n : Nat) (H : List Int) : List UInt8 := body 256 (roomE n H) ++ lowBytes 4 (crc (body 256 (roomE n H)))
theorem room_sealed (n : Nat) (H : List Int) : sealB 256 (roomE n H) = (roomT n H, 0) := sealB_ok (by omega) (by omega) (by rw [roomE_length]; omega)
theorem roomBody_length (n : Nat) (H : List Int) : (body 256 (roomE n H)).length = 252 := by
  have := body_length (n := 256) (l := roomE n H) (by rw [roomE_length]; omega)
  omega
theorem roomT_length (n : Nat) (H : List Int) : (roomT n H).length = 256 := by
  unfold roomT
  rw [List.length_append, roomBody_length, lowBytes_length]
theorem roomT_open (n : Nat) (H : List Int) : openB (roomT n H) = (body 256 (roomE n H), 0) := openB_back _
def bitAt (l : List UInt8) (i : Nat) : Bool := (l.getD (3 + i / 8) 0).toNat / 2 ^ (i % 8) % 2 == 1
def bitsH (l : List UInt8) (m : Nat) : List Int := ((List.range m).filter (bitAt l)).map fun i : Nat => (i : Int)
theorem bitsH_ok (l : List UInt8) {m n : Nat} (h : m ≤ n) : HOk n (bitsH l m) := by
  refine ⟨?_, fun x hx => ?_⟩
  · unfold bitsH
    rw [List.pairwise_map]
    refine (List.Pairwise.filter _ List.pairwise_lt_range).imp ?_
    intro a b h
    omega
  · obtain ⟨i, hi, rfl⟩ := List.mem_map.1 hx
    have := List.mem_range.1 (List.mem_filter.1 hi).1
    omega
theorem bitsH_snoc (l : List UInt8) (m : Nat) : bitsH l (m + 1) = if bitAt l m = true then bitsH l m ++ [(m : Int)] else bitsH l m := by
  unfold bitsH
  rw [List.range_succ, List.filter_append, List.map_append]
  simp only [List.filter_cons, List.filter_nil]
  split <;> simp
theorem putL_last : ∀ (l : List Int) (x : Int), (∀ y ∈ l, y < x) → putL x l = l ++ [x]
  | [], _, _ => rfl
  | y :: r, x, h => by
    unfold putL
    rw [if_pos (h y (by simp)), putL_last r x (fun z hz => h z (by simp [hz]))]
    rfl
theorem bitsH_put (l : List UInt8) (m : Nat) : bitsH l (m + 1) = if bitAt l m = true then putL (m : Int) (bitsH l m) else bitsH l m := by
  rw [bitsH_snoc]
  split
  · rw [putL_last _ _ (fun y hy => ((bitsH_ok l (Nat.le_refl m)).range y hy).2)]
  · rfl
theorem byteP_div (P : Nat → Bool) (k j : Nat) (hj : j < 8) : (byteP P k / 2 ^ j % 2 == 1) = P (k * 8 + j) := by
  have h1 := byteP_bit P k j hj
  rw [nat_bit] at h1
  have hp : 0 < 2 ^ j := Nat.two_pow_pos j
  cases hP : P (k * 8 + j) with
  | true =>
    rw [hP] at h1
    have h2 : byteP P k / 2 ^ j % 2 * 2 ^ j = 1 * 2 ^ j := by rw [h1, Nat.one_mul]; rfl
    have h3 := Nat.eq_of_mul_eq_mul_right hp h2
    rw [h3]
    rfl
  | false =>
    rw [hP] at h1
    have h2 : byteP P k / 2 ^ j % 2 * 2 ^ j = 0 * 2 ^ j := by rw [h1, Nat.zero_mul]; rfl
    have h3 := Nat.eq_of_mul_eq_mul_right hp h2
    rw [h3]
    rfl
theorem roomBody_byte (n : Nat) (H : List Int) {k : Nat} (hk : k < 238) : (body 256 (roomE n H)).getD (3 + k) 0 = (byteP (inP H) k).toUInt8 := by
  unfold body
  rw [List.getD_eq_getElem?_getD, List.getElem?_append_left (by rw [roomE_length]; omega)]
  unfold roomE
  rw [List.getElem?_append_right (by rw [lowBytes_length]; omega), lowBytes_length, List.getElem?_append_right (by rw [lowBytes_length]; omega), lowBytes_length]
  unfold bytesP
  rw [List.getElem?_map, show 3 + k - 1 - 2 = k by omega, List.getElem?_range hk]
  rfl
theorem roomBody_bit {n : Nat} (H : List Int) (hn : n ≤ 1900) {i : Nat} (hi : i < n) : bitAt (body 256 (roomE n H)) i = inP H i := by
  unfold bitAt
  rw [roomBody_byte n H (by omega)]
  have hb := byteP_lt (inP H) (i / 8)
  rw [show (byteP (inP H) (i / 8)).toUInt8.toNat = byteP (inP H) (i / 8) by rw [UInt8.toNat_ofNat', Nat.mod_eq_of_lt hb], byteP_div _ _ _ (by omega), i8]
theorem roomBody_bits {n : Nat} {H : List Int} (ho : HOk n H) (hn : n ≤ 1900) : bitsH (body 256 (roomE n H)) n = H := by
  have : (List.range n).filter (bitAt (body 256 (roomE n H))) = (List.range n).filter (inP H) := by
    refine List.filter_congr fun i hi => ?_
    exact roomBody_bit H hn (List.mem_range.1 hi)
  unfold bitsH
  rw [this]
  exact all_list ho
def sizeN (l : List UInt8) : Nat := low ((l.drop 1).take 2)
theorem sizeN_lt (l : List UInt8) : sizeN l < 65536 := by
  refine Nat.lt_of_lt_of_le (low_lt _) ?_
  refine Nat.le_trans (Nat.pow_le_pow_right (by omega) (show _ ≤ 2 from ?_)) (by decide)
  rw [List.length_take]
  omega
theorem roomBody_size {n : Nat} (H : List Int) (hn : n ≤ 1900) : sizeN (body 256 (roomE n H)) = n := by
  unfold sizeN body roomE
  rw [List.append_assoc, List.append_assoc, List.drop_left' (lowBytes_length _ _), List.take_left' (lowBytes_length _ _), low_lowBytes, Nat.mod_eq_of_lt (by omega)]
def readR (b : List UInt8) : Nat × List Int × Int :=
  if b.length ≠ 256 then (0, [], 5)
  else if (openB b).2 ≠ 0 then (0, [], (openB b).2)
  else if ¬ (1 ≤ sizeN (openB b).1 ∧ sizeN (openB b).1 ≤ 1900) then (0, [], 6)
  else if roomT (sizeN (openB b).1) (bitsH (openB b).1 (sizeN (openB b).1)) = b then (sizeN (openB b).1, bitsH (openB b).1 (sizeN (openB b).1), 0)
  else (0, [], 6)
theorem readR_laid {n : Nat} {H : List Int} (ho : HOk n H) (h1 : 1 ≤ n) (hn : n ≤ 1900) : readR (roomT n H) = (n, H, 0) := by
  unfold readR
  rw [roomT_open]
  simp only
  rw [roomBody_size H hn, roomBody_bits ho hn, if_neg (by rw [roomT_length]; omega), if_neg (by decide), if_neg (by omega), if_pos rfl]
theorem bytesP_zero {n : Nat} {H : List Int} (ho : HOk n H) {m m' : Nat} (h : n ≤ m * 8) (hm : m ≤ m') : bytesP (inP H) m' = bytesP (inP H) m ++ List.replicate (m' - m) 0 := by
  apply List.ext_getElem?
  intro k
  unfold bytesP
  rcases Nat.lt_or_ge k m with h' | h'
  · rw [List.getElem?_append_left (by simpa using h'), List.getElem?_map, List.getElem?_map, List.getElem?_range h', List.getElem?_range (by omega)]
  · rw [List.getElem?_append_right (by simpa using h'), List.length_map, List.length_range, List.getElem?_map, List.getElem?_replicate]
    rcases Nat.lt_or_ge k m' with h2 | h2
    · rw [List.getElem?_range h2, if_pos (by omega)]
      have : byteP (inP H) k = 0 := by
        rw [← byteP_false k]
        exact byteP_ext fun j hj => ho.off (by omega)
      simp only [Option.map_some]
      rw [this]
      rfl
    · rw [List.getElem?_eq_none (by simpa using h2), if_neg (by omega)]
      rfl
theorem room_doc {n : Nat} {H : List Int} (ho : HOk n H) (hn : n ≤ 1900) : sealB 256 (lowBytes 1 6 ++ lowBytes 2 n ++ bytesP (inP H) ((n + 7) / 8)) = (roomT n H, 0) := by
  have hl : (lowBytes 1 6 ++ lowBytes 2 n ++ bytesP (inP H) ((n + 7) / 8)).length = 3 + (n + 7) / 8 := by
    rw [List.length_append, List.length_append, lowBytes_length, lowBytes_length, bytesP_length]
  have hb : body 256 (lowBytes 1 6 ++ lowBytes 2 n ++ bytesP (inP H) ((n + 7) / 8)) = body 256 (roomE n H) := by
    unfold body
    rw [hl, roomE_length]
    unfold roomE
    rw [bytesP_zero ho (show n ≤ (n + 7) / 8 * 8 by omega) (show (n + 7) / 8 ≤ 238 by omega)]
    simp only [List.append_assoc]
    congr 3
    rw [List.replicate_append_replicate]
    congr 1
    omega
  rw [sealB_ok (by omega) (by omega) (by rw [hl]; omega), hb]
  rfl
theorem txts_one {w : World} {b : Nat} {s : ByteArray} (h : Blk w b 9 #[.string s]) : Txts w w.heap.size (some ⟨b, 0, none⟩) [s] := by
  intro _
  refine ⟨b, 0, rfl, h.lt, fun j x hx => ?_⟩
  match j, hx with
  | 0, hx =>
    obtain rfl : s = x := by simpa using hx
    exact h.cell 0
theorem arr34 (a : Array Value) (h : a.size = 34) : ∃ x0 x1 x2 x3 x4 x5 x6 x7 x8 x9 x10 x11 x12 x13 x14 x15 x16 x17 x18 x19 x20 x21 x22 x23 x24 x25 x26 x27 x28 x29 x30 x31 x32 x33 : Value, a = #[x0, x1, x2, x3, x4, x5, x6, x7, x8, x9, x10, x11, x12, x13, x14, x15, x16, x17, x18, x19, x20, x21, x22, x23, x24, x25, x26, x27, x28, x29, x30, x31, x32, x33] := by
  obtain ⟨l⟩ := a
  have h : l.length = 34 := h
  obtain ⟨x0, t1, e1, h1⟩ := cons_of h
  obtain ⟨x1, t2, e2, h2⟩ := cons_of h1
  obtain ⟨x2, t3, e3, h3⟩ := cons_of h2
  obtain ⟨x3, t4, e4, h4⟩ := cons_of h3
  obtain ⟨x4, t5, e5, h5⟩ := cons_of h4
  obtain ⟨x5, t6, e6, h6⟩ := cons_of h5
  obtain ⟨x6, t7, e7, h7⟩ := cons_of h6
  obtain ⟨x7, t8, e8, h8⟩ := cons_of h7
  obtain ⟨x8, t9, e9, h9⟩ := cons_of h8
  obtain ⟨x9, t10, e10, h10⟩ := cons_of h9
  obtain ⟨x10, t11, e11, h11⟩ := cons_of h10
  obtain ⟨x11, t12, e12, h12⟩ := cons_of h11
  obtain ⟨x12, t13, e13, h13⟩ := cons_of h12
  obtain ⟨x13, t14, e14, h14⟩ := cons_of h13
  obtain ⟨x14, t15, e15, h15⟩ := cons_of h14
  obtain ⟨x15, t16, e16, h16⟩ := cons_of h15
  obtain ⟨x16, t17, e17, h17⟩ := cons_of h16
  obtain ⟨x17, t18, e18, h18⟩ := cons_of h17
  obtain ⟨x18, t19, e19, h19⟩ := cons_of h18
  obtain ⟨x19, t20, e20, h20⟩ := cons_of h19
  obtain ⟨x20, t21, e21, h21⟩ := cons_of h20
  obtain ⟨x21, t22, e22, h22⟩ := cons_of h21
  obtain ⟨x22, t23, e23, h23⟩ := cons_of h22
  obtain ⟨x23, t24, e24, h24⟩ := cons_of h23
  obtain ⟨x24, t25, e25, h25⟩ := cons_of h24
  obtain ⟨x25, t26, e26, h26⟩ := cons_of h25
  obtain ⟨x26, t27, e27, h27⟩ := cons_of h26
  obtain ⟨x27, t28, e28, h28⟩ := cons_of h27
  obtain ⟨x28, t29, e29, h29⟩ := cons_of h28
  obtain ⟨x29, t30, e30, h30⟩ := cons_of h29
  obtain ⟨x30, t31, e31, h31⟩ := cons_of h30
  obtain ⟨x31, t32, e32, h32⟩ := cons_of h31
  obtain ⟨x32, t33, e33, h33⟩ := cons_of h32
  obtain ⟨x33, t34, e34, h34⟩ := cons_of h33
  obtain rfl := List.eq_nil_of_length_eq_zero h34
  subst e34 e33 e32 e31 e30 e29 e28 e27 e26 e25 e24 e23 e22 e21 e20 e19 e18 e17 e16 e15 e14 e13 e12 e11 e10 e9 e8 e7 e6 e5 e4 e3 e2 e1
  exact ⟨x0, x1, x2, x3, x4, x5, x6, x7, x8, x9, x10, x11, x12, x13, x14, x15, x16, x17, x18, x19, x20, x21, x22, x23, x24, x25, x26, x27, x28, x29, x30, x31, x32, x33, rfl⟩
def roomSt (n : Nat) (B : ByteArray) : Nat → Wr
  | 0 | 1 => ⟨[], 0⟩
  | 2 => Wr.nums ⟨[], 0⟩ 1 [6]
  | 3 => (Wr.nums ⟨[], 0⟩ 1 [6]).nums 2 [(n : Int)]
  | _ => ((Wr.nums ⟨[], 0⟩ 1 [6]).nums 2 [(n : Int)]).raws [B]
theorem roomSt_two (n : Nat) (B : ByteArray) : roomSt n B 2 = ⟨lowBytes 1 6, 0⟩ := by
  show Wr.nums ⟨[], 0⟩ 1 [((6 : Nat) : Int)] = _
  rw [nums_ok _ _ _ (fit_one (by omega)), all_one, List.nil_append]
theorem roomSt_three {n : Nat} (hn : n ≤ 1900) (B : ByteArray) : roomSt n B 3 = ⟨lowBytes 1 6 ++ lowBytes 2 n, 0⟩ := by
  show Wr.nums (roomSt n B 2) 2 [(n : Int)] = _
  rw [roomSt_two, nums_ok _ _ _ (fit_one (by omega)), all_one]
theorem roomSt_four {n : Nat} (hn : n ≤ 1900) (H : List Int) : roomSt n (bs (bytesP (inP H) 238)) 4 = ⟨roomE n H, 0⟩ := by
  show Wr.raws (roomSt n (bs (bytesP (inP H) 238)) 3) [bs (bytesP (inP H) 238)] = _
  rw [roomSt_three hn]
  unfold Wr.raws Wr.lay
  rw [if_pos rfl]
  simp [bs_list, roomE]
def rlD (i : Nat) : Option Nat := [10, 11, 12, 13, 14, 15, 16, 17, 18, 19, 20, 21, 22, 23, 24, 25, 26, 9, 27, 28, 4, 5][i]?
theorem rlD_inj (i j s : Nat) (_ : i < 22) (_ : j < 22) (h1 : rlD i = some s) (h2 : rlD j = some s) : i = j := slots_inj (by decide) i j s h1 h2
theorem rlD_lt (i s : Nat) (_ : i < 22) (h : rlD i = some s) : s < 34 := (by decide : ∀ x ∈ [10, 11, 12, 13, 14, 15, 16, 17, 18, 19, 20, 21, 22, 23, 24, 25, 26, 9, 27, 28, 4, 5], x < 34) s (List.mem_of_getElem? h)
def rlC (n : Nat) : Nat := [0, 2, 8, 15, 16].getD n 0
theorem rlC_inj (i j : Nat) (hi : i < 5) (hj : j < 5) (h : rlC i = rlC j) : i = j := (by decide : ∀ i, i < 5 → ∀ j, j < 5 → rlC i = rlC j → i = j) i hi j hj h
theorem rlC_lt : ∀ i, i < 5 → rlC i < 22 := by decide
def rlF (g0 n : Nat) (B Y : ByteArray) : Nat → Value → World → Prop
  | 1, v, w => ∃ b, v = .slice (some ⟨b, 0, none⟩) 1 1 ∧ Blk w b 3 #[.int .i64 6]
  | 3, v, _ => v = .pointer (some ⟨g0, 0, none⟩)
  | 4, v, _ => v = .pointer (some ⟨g0, 0, none⟩)
  | 5, v, _ => v = .pointer (some ⟨g0, 0, none⟩)
  | 6, v, _ => v = .int .i64 (n : Int)
  | 7, v, w => ∃ b, v = .slice (some ⟨b, 0, none⟩) 1 1 ∧ Blk w b 3 #[.int .i64 (n : Int)]
  | 9, v, _ => v = .pointer (some ⟨g0, 0, none⟩)
  | 10, v, _ => v = .pointer (some ⟨g0, 0, none⟩)
  | 11, v, _ => v = .pointer (some ⟨g0, 1, none⟩)
  | 12, v, _ => v = .slice (some ⟨g0, 1, none⟩) 238 238
  | 13, v, _ => v = .string B
  | 14, v, w => ∃ b, v = .slice (some ⟨b, 0, none⟩) 1 1 ∧ Blk w b 9 #[.string B]
  | 16, v, _ => v = .tuple #[.string Y, .int .i64 0]
  | 17, v, _ => v = .tuple #[.string Y, .int .i64 0]
  | 18, v, _ => v = .string Y
  | 19, v, _ => v = .int .i64 0
  | 20, v, _ => v = .string Y
  | 21, v, _ => v = .int .i64 0
  | _, _, _ => True
def rlCh (W0 : World) (n : Nat) (B : ByteArray) : Nat → Value → World → Prop
  | 0, _, w => Below W0.heap.size W0 w
  | 5, _, w => Below W0.heap.size W0 w
  | m, v, w => Below W0.heap.size W0 w ∧ ∃ g, v = .pointer (some ⟨g, 0, none⟩) ∧ W0.heap.size ≤ g ∧ OutAt w g (roomSt n B m)
theorem rlCh_below {W0 : World} {n m : Nat} {B : ByteArray} {v : Value} {w : World} (hc : rlCh W0 n B m v w) : Below W0.heap.size W0 w := by
  unfold rlCh at hc
  split at hc
  · exact hc
  · exact hc
  · exact hc.1
theorem rlCh_kept {W0 : World} {n : Nat} {B : ByteArray} (m : Nat) (v : Value) (w w' : World) (hc : rlCh W0 n B m v w) (hg : w.grownBy w' none) : rlCh W0 n B m v w' := by
  have hb := rlCh_below hc
  have hb' := below_none' hb hg hb.size
  unfold rlCh at hc ⊢
  split at hc
  · exact hb'
  · exact hb'
  · obtain ⟨_, g, hv, hW, ho⟩ := hc
    exact ⟨hb', g, hv, hW, ho.kept' hg⟩
theorem rlF_kept {g0 n : Nat} {B Y : ByteArray} (i : Nat) (v : Value) (w w' : World) (hf : rlF g0 n B Y i v w) (hg : GrownT 145 w w') : rlF g0 n B Y i v w' := by
  unfold rlF at hf ⊢
  split at hf <;> first
    | exact hf
    | (obtain ⟨b, hv, hb⟩ := hf; exact ⟨b, hv, hb.grownT hg (by decide)⟩)
    | trivial
set_option maxRecDepth 100000 in
set_option maxHeartbeats 8000000 in
theorem rlay_room {w : World} {g0 n : Nat} {H : List Int} (h : RoomAt w g0 n H) (h1 : 1 ≤ n) :
    Calls Tryz.prog 56 #[.pointer (some ⟨g0, 0, none⟩)] w fun e w' => e = .returned (.tuple #[.string (bs (roomT n H)), .int .i64 0]) ∧ Below w.heap.size w w' := by
  have hn := h.size
  obtain ⟨B, hB⟩ : ∃ B, B = bs (bytesP (inP H) 238) := ⟨_, rfl⟩
  obtain ⟨Y, hY⟩ : ∃ Y, Y = bs (roomE n H) := ⟨_, rfl⟩
  have S2 := Lib.hid (roomSt_two n B)
  have S3 := Lib.hid (roomSt_three hn B)
  have S4 : Hid (roomSt n B 4 = ⟨roomE n H, 0⟩) := Lib.hid (by rw [hB]; exact roomSt_four hn H)
  have HSZ : Hid (∀ W, Below w.heap.size w W → Calls Tryz.prog 50 #[.pointer (some ⟨g0, 0, none⟩)] W fun e w' => e = .returned (.int .i64 (n : Int)) ∧ w' = W) := Lib.hid (fun W hW => size_any (h.below hW))
  have HG0 : Hid (∀ W, Below w.heap.size w W → g0 < W.heap.size) := Lib.hid (fun W hW => Nat.lt_of_lt_of_le h.lt hW.size)
  have HC0 : Hid (∀ W, Below w.heap.size w W → W.cell? ⟨g0, 0, none⟩ = some (.int .i64 (n : Int))) := Lib.hid (fun W hW => (h.below hW).zero)
  have HCV : Hid (∀ W, Below w.heap.size w W → (convert 81 9 (.slice (some ⟨g0, 1, none⟩) 238 238)).run Tryz.prog W = .ok (.string B) W) := Lib.hid (fun W hW => by
    have hr := h.below hW
    have := run_convert_bytes_back (P := Tryz.prog) W 81 9 5 ⟨g0, 1, none⟩ 238 (bytesP (inP H) 238) Tryz.underlying81 Tryz.underlying5 Tryz.underlying9 (fun i hi => by
      rw [bytesP_length] at hi
      rw [Go.WideShapes.add_plain]
      have e := hr.byte hi
      have e2 : ((bytesP (inP H) 238)[i]'(by rw [bytesP_length]; exact hi)).toNat = byteP (inP H) i := by
        unfold bytesP
        rw [List.getElem_map, List.getElem_range, UInt8.toNat_ofNat', Nat.mod_eq_of_lt (byteP_lt _ _)]
      rw [e2]
      exact e)
    rw [bytesP_length] at this
    rw [hB]
    exact this)
  have HSEAL : Hid (∀ (W : World) (X : Option Addr) (cc : Nat), Txts W W.heap.size X [Y] → Calls Tryz.prog 99 #[.int .i64 256, .slice X 1 cc] W fun e w' => e = .returned (.tuple #[.string (bs (roomT n H)), .int .i64 0]) ∧ Below W.heap.size W w') := Lib.hid (fun W X cc hx => by
    have hfit : TextsFit [Y] := by
      refine ⟨by simp, fun x hx => ?_⟩
      rw [List.mem_singleton.1 hx, hY, bs_size, roomE_length]
      omega
    have := seal_any 256 X 1 cc [Y] W rfl hx hfit
    rw [cats_one, hY, bs_list] at this
    have e : sealV 256 (roomE n H) = .tuple #[.string (bs (roomT n H)), .int .i64 0] := by unfold sealV; rw [room_sealed]; rfl
    rwa [e] at this)
  obtain ⟨T, hT⟩ : ∃ T, T = bs (roomT n H) := ⟨_, rfl⟩
  rw [← hT] at HSEAL ⊢
  have HYE := Lib.hid hY
  have HBE' : Hid (B.size = 238) := Lib.hid (by rw [hB, bs_size, bytesP_length])
  have HR6 : Hid (InRange [6]) := Lib.hid (inRange_one (by omega) (by omega))
  have HRN : Hid (InRange [(n : Int)]) := Lib.hid (inRange_one (by omega) (by omega))
  have HLE : Hid ((roomE n H).length = 241) := Lib.hid (roomE_length n H)
  have hnI : 1 ≤ (n : Int) := by omega
  have hnz : ¬ (n : Int) = 0 := by omega
  have hnz' : ¬ n = 0 := by omega
  clear h hT hY hB hn h1
  go_enter Tryz.func56, Tryz.ntmps56
  go_wp2_with fail
  refine (HSZ.out _ (Below.refl _ _)).mono ?_
  rintro e w1 ⟨rfl, rfl⟩
  go_upto_region 3 with fail
  refine wp_region_chain_v 145 22 rlD 5 rlC (rlF g0 n B Y) (rlCh w1 n B) (by kernel_rfl) (by kernel_rfl) rfl rlD_inj rlD_lt rlC_lt rlC_inj ?hcw rlF_kept rlCh_kept ?h0 ?hloose ?hchain ?hK
  case hcw =>
    intro n hn
    rcases (show n = 0 ∨ n = 1 ∨ n = 2 ∨ n = 3 by omega) with rfl | rfl | rfl | rfl <;> exact of_decide_eq_true (by kernel_rfl)
  case h0 => exact (Below.refl _ _).drew
  case hloose =>
    intro i hi hn y w2 hf hw hch
    obtain ⟨nn, vv, _, hcc⟩ := hch
    have hbe := rlCh_below hcc
    clear hcc
    rcases (show i = 0 ∨ i = 1 ∨ i = 2 ∨ i = 3 ∨ i = 4 ∨ i = 5 ∨ i = 6 ∨ i = 7 ∨ i = 8 ∨ i = 9 ∨ i = 10 ∨ i = 11 ∨ i = 12 ∨ i = 13 ∨ i = 14 ∨ i = 15 ∨ i = 16 ∨ i = 17 ∨ i = 18 ∨ i = 19 ∨ i = 20 ∨ i = 21 by omega) with rfl | rfl | rfl | rfl | rfl | rfl | rfl | rfl | rfl | rfl | rfl | rfl | rfl | rfl | rfl | rfl | rfl | rfl | rfl | rfl | rfl | rfl
    · exact absurd rfl (hn 0 (by omega))
    · clear hf hw hn hbe
      refine wpOp_value (v := .slice (some ⟨w2.heap.size, 0, none⟩) 1 1) (w' := w2.alloc (.cells #[.int .i64 6] 3)) rfl rfl ?_ ⟨_, rfl, (fun h => by cases h), by_alloc (by_refl _ _) _, ?_⟩
      · go_simp
      · exact ⟨_, rfl, Blk.new _ _ _⟩
    · exact absurd rfl (hn 1 (by omega))
    · have e1 : y.tmps[0]?.getD undef = .pointer (some ⟨g0, 0, none⟩) := by rw [hf.2.2 0 (by decide)]; rfl
      clear hf hw hn hbe
      refine wpOp_value (v := .pointer (some ⟨g0, 0, none⟩)) (w' := w2) rfl rfl ?_ ⟨_, rfl, (fun h => by cases h), by_refl _ _, ?_⟩
      · go_simp
      · exact (rfl : (.pointer (some ⟨g0, 0, none⟩) : Value) = _)
    · have e1 : y.tmps[13]?.getD undef = .pointer (some ⟨g0, 0, none⟩) := hw 3 (of_decide_eq_true (by kernel_rfl))
      have hg0 := HG0.out w2 hbe
      clear hf hw hn hbe
      refine wpOp_value (v := .pointer (some ⟨g0, 0, none⟩)) (w' := w2) rfl rfl ?_ ⟨_, rfl, (fun h => by cases h), by_refl _ _, ?_⟩
      · go_simp
      · exact (rfl : (.pointer (some ⟨g0, 0, none⟩) : Value) = _)
    · have e1 : y.tmps[14]?.getD undef = .pointer (some ⟨g0, 0, none⟩) := hw 4 (of_decide_eq_true (by kernel_rfl))
      clear hf hw hn hbe
      refine wpOp_value (v := .pointer (some ⟨g0, 0, none⟩)) (w' := w2) rfl rfl ?_ ⟨_, rfl, (fun h => by cases h), by_refl _ _, ?_⟩
      · go_simp
      · exact (rfl : (.pointer (some ⟨g0, 0, none⟩) : Value) = _)
    · have e1 : y.tmps[15]?.getD undef = .pointer (some ⟨g0, 0, none⟩) := hw 5 (of_decide_eq_true (by kernel_rfl))
      have c0 := HC0.out w2 hbe
      clear hf hw hn hbe
      refine wpOp_value (v := .int .i64 (n : Int)) (w' := w2) rfl rfl ?_ ⟨_, rfl, (fun h => by cases h), by_refl _ _, ?_⟩
      · go_simp
      · exact (rfl : (.int .i64 (n : Int) : Value) = _)
    · have e1 : y.tmps[16]?.getD undef = .int .i64 (n : Int) := hw 6 (of_decide_eq_true (by kernel_rfl))
      clear hf hw hn hbe
      refine wpOp_value (v := .slice (some ⟨w2.heap.size, 0, none⟩) 1 1) (w' := w2.alloc (.cells #[.int .i64 (n : Int)] 3)) rfl rfl ?_ ⟨_, rfl, (fun h => by cases h), by_alloc (by_refl _ _) _, ?_⟩
      · go_simp
      · exact ⟨_, rfl, Blk.new _ _ _⟩
    · exact absurd rfl (hn 2 (by omega))
    · have e1 : y.tmps[0]?.getD undef = .pointer (some ⟨g0, 0, none⟩) := by rw [hf.2.2 0 (by decide)]; rfl
      clear hf hw hn hbe
      refine wpOp_value (v := .pointer (some ⟨g0, 0, none⟩)) (w' := w2) rfl rfl ?_ ⟨_, rfl, (fun h => by cases h), by_refl _ _, ?_⟩
      · go_simp
      · exact (rfl : (.pointer (some ⟨g0, 0, none⟩) : Value) = _)
    · have e1 : y.tmps[19]?.getD undef = .pointer (some ⟨g0, 0, none⟩) := hw 9 (of_decide_eq_true (by kernel_rfl))
      have hg0 := HG0.out w2 hbe
      clear hf hw hn hbe
      refine wpOp_value (v := .pointer (some ⟨g0, 0, none⟩)) (w' := w2) rfl rfl ?_ ⟨_, rfl, (fun h => by cases h), by_refl _ _, ?_⟩
      · go_simp
      · exact (rfl : (.pointer (some ⟨g0, 0, none⟩) : Value) = _)
    · have e1 : y.tmps[20]?.getD undef = .pointer (some ⟨g0, 0, none⟩) := hw 10 (of_decide_eq_true (by kernel_rfl))
      clear hf hw hn hbe
      refine wpOp_value (v := .pointer (some ⟨g0, 1, none⟩)) (w' := w2) rfl rfl ?_ ⟨_, rfl, (fun h => by cases h), by_refl _ _, ?_⟩
      · go_simp
      · exact (rfl : (.pointer (some ⟨g0, 1, none⟩) : Value) = _)
    · have e1 : y.tmps[21]?.getD undef = .pointer (some ⟨g0, 1, none⟩) := hw 11 (of_decide_eq_true (by kernel_rfl))
      clear hf hw hn hbe
      refine wpOp_value (v := .slice (some ⟨g0, 1, none⟩) 238 238) (w' := w2) rfl rfl ?_ ⟨_, rfl, (fun h => by cases h), by_refl _ _, ?_⟩
      · go_simp
      · exact (rfl : (.slice (some ⟨g0, 1, none⟩) 238 238 : Value) = _)
    · have e1 : y.tmps[22]?.getD undef = .slice (some ⟨g0, 1, none⟩) 238 238 := hw 12 (of_decide_eq_true (by kernel_rfl))
      have hcv := HCV.out w2 hbe
      clear hf hw hn hbe
      refine wpOp_value (v := .string B) (w' := w2) rfl rfl ?_ ⟨_, rfl, (fun h => by cases h), by_refl _ _, ?_⟩
      · go_simp
      · exact (rfl : (.string B : Value) = _)
    · have e1 : y.tmps[23]?.getD undef = .string B := hw 13 (of_decide_eq_true (by kernel_rfl))
      clear hf hw hn hbe
      refine wpOp_value (v := .slice (some ⟨w2.heap.size, 0, none⟩) 1 1) (w' := w2.alloc (.cells #[.string B] 9)) rfl rfl ?_ ⟨_, rfl, (fun h => by cases h), by_alloc (by_refl _ _) _, ?_⟩
      · go_simp
      · exact ⟨_, rfl, Blk.new _ _ _⟩
    · exact absurd rfl (hn 3 (by omega))
    · exact absurd rfl (hn 4 (by omega))
    · have e1 : y.tmps[26]?.getD undef = .tuple #[.string Y, .int .i64 0] := hw 16 (of_decide_eq_true (by kernel_rfl))
      clear hf hw hn hbe
      refine wpOp_value (v := .tuple #[.string Y, .int .i64 0]) (w' := w2) rfl rfl ?_ ⟨_, rfl, (fun h => by cases h), by_refl _ _, ?_⟩
      · go_simp
      · exact (rfl : (.tuple #[.string Y, .int .i64 0] : Value) = _)
    · have e1 : y.tmps[9]?.getD undef = .tuple #[.string Y, .int .i64 0] := hw 17 (of_decide_eq_true (by kernel_rfl))
      clear hf hw hn hbe
      refine wpOp_value (v := .string Y) (w' := w2) rfl rfl ?_ ⟨_, rfl, (fun h => by cases h), by_refl _ _, ?_⟩
      · go_simp
      · exact (rfl : (.string Y : Value) = _)
    · have e1 : y.tmps[9]?.getD undef = .tuple #[.string Y, .int .i64 0] := hw 17 (of_decide_eq_true (by kernel_rfl))
      clear hf hw hn hbe
      refine wpOp_value (v := .int .i64 0) (w' := w2) rfl rfl ?_ ⟨_, rfl, (fun h => by cases h), by_refl _ _, ?_⟩
      · go_simp
      · exact (rfl : (.int .i64 0 : Value) = _)
    · have e1 : y.tmps[27]?.getD undef = .string Y := hw 18 (of_decide_eq_true (by kernel_rfl))
      clear hf hw hn hbe
      refine wpOp_value (v := .string Y) (w' := w2) rfl rfl ?_ ⟨_, rfl, (fun h => by cases h), by_refl _ _, ?_⟩
      · go_simp
      · exact (rfl : (.string Y : Value) = _)
    · have e1 : y.tmps[28]?.getD undef = .int .i64 0 := hw 19 (of_decide_eq_true (by kernel_rfl))
      clear hf hw hn hbe
      refine wpOp_value (v := .int .i64 0) (w' := w2) rfl rfl ?_ ⟨_, rfl, (fun h => by cases h), by_refl _ _, ?_⟩
      · go_simp
      · exact (rfl : (.int .i64 0 : Value) = _)
  case hchain =>
    intro m hm y w2 hf hw hch
    rcases (show m = 0 ∨ m = 1 ∨ m = 2 ∨ m = 3 ∨ m = 4 by omega) with rfl | rfl | rfl | rfl | rfl
    · have hbe : Below w1.heap.size w1 w2 := hch
      clear hf hw hch
      change wpOp _ _ _ 0 _ _ _
      refine wpOp_value (v := .pointer (some ⟨w2.heap.size, 0, none⟩)) (w' := w2.alloc (.cells #[.pointer none, .int .i64 0, .int .i64 0] 145)) rfl rfl ?_ ⟨_, rfl, (fun h => by cases h), GrownT.of_none (by_alloc (by_refl _ _) _), ⟨hbe.alloc hbe.size _, _, rfl, hbe.size, OutAt.new w2⟩, trivial⟩
      go_simp
    · obtain ⟨hbe, g, hg, hgW, ho⟩ := hch
      have e1 : y.tmps[10]?.getD undef = .pointer (some ⟨g, 0, none⟩) := hg
      obtain ⟨b, e2, hbk⟩ : ∃ b, y.tmps[11]?.getD undef = .slice (some ⟨b, 0, none⟩) 1 1 ∧ Blk w2 b 3 #[.int .i64 6] := hw 1 (of_decide_eq_true (by kernel_rfl))
      clear hf hw hg
      change wpOp _ _ _ 2 _ _ _
      refine wpOp_call (f := 95) (args := #[.pointer (some ⟨g, 0, none⟩), .slice (some ⟨b, 0, none⟩) 1 1]) rfl rfl (by go_simp) ((out_byte g _ _ 1 1 [6] w2 rfl (ints_blk1 hbk) (by simp) HR6.out ho (by simp [roomSt])).mono ?_)
      rintro e w3 ⟨rfl, h3, hg3⟩
      exact ⟨_, rfl, _, rfl, (fun h => by cases h), ho.grownT' hg3, ⟨below_by_new hbe hg3 hgW, g, rfl, hgW, h3⟩, trivial⟩
    · obtain ⟨hbe, g, hg, hgW, ho⟩ := hch
      have e1 : y.tmps[12]?.getD undef = .pointer (some ⟨g, 0, none⟩) := hg
      obtain ⟨b, e2, hbk⟩ : ∃ b, y.tmps[17]?.getD undef = .slice (some ⟨b, 0, none⟩) 1 1 ∧ Blk w2 b 3 #[.int .i64 (n : Int)] := hw 7 (of_decide_eq_true (by kernel_rfl))
      clear hf hw hg
      change wpOp _ _ _ 8 _ _ _
      refine wpOp_call (f := 96) (args := #[.pointer (some ⟨g, 0, none⟩), .slice (some ⟨b, 0, none⟩) 1 1]) rfl rfl (by go_simp) ((out_half g _ _ 1 1 [(n : Int)] w2 rfl (ints_blk1 hbk) (by simp) HRN.out ho (by rw [S2.out]; simp [lowBytes_length])).mono ?_)
      rintro e w3 ⟨rfl, h3, hg3⟩
      exact ⟨_, rfl, _, rfl, (fun h => by cases h), ho.grownT' hg3, ⟨below_by_new hbe hg3 hgW, g, rfl, hgW, h3⟩, trivial⟩
    · obtain ⟨hbe, g, hg, hgW, ho⟩ := hch
      have e1 : y.tmps[18]?.getD undef = .pointer (some ⟨g, 0, none⟩) := hg
      obtain ⟨b, e2, hbk⟩ : ∃ b, y.tmps[24]?.getD undef = .slice (some ⟨b, 0, none⟩) 1 1 ∧ Blk w2 b 9 #[.string B] := hw 14 (of_decide_eq_true (by kernel_rfl))
      clear hf hw hg
      change wpOp _ _ _ 15 _ _ _
      refine wpOp_call (f := 97) (args := #[.pointer (some ⟨g, 0, none⟩), .slice (some ⟨b, 0, none⟩) 1 1]) rfl rfl (by go_simp) ((out_raw g _ _ 1 1 [B] w2 rfl (txts_one hbk) (by simp) (by rw [cats_one, ← Lib.size_eq, HBE'.out]; omega) ho (by rw [S3.out]; simp [lowBytes_length])).mono ?_)
      rintro e w3 ⟨rfl, h3, hg3⟩
      exact ⟨_, rfl, _, rfl, (fun h => by cases h), ho.grownT' hg3, ⟨below_by_new hbe hg3 hgW, g, rfl, hgW, h3⟩, trivial⟩
    · obtain ⟨hbe, g, hg, hgW, ho⟩ := hch
      have e1 : y.tmps[25]?.getD undef = .pointer (some ⟨g, 0, none⟩) := hg
      have HFIN := fin_any g _ w2 ho (by rw [S4.out]; exact Wr.ok_zero _) (by rw [S4.out]; have := HLE.out; show (roomE n H).length ≤ _; omega)
      rw [S4.out] at HFIN
      clear hf hw hg
      change wpOp _ _ _ 16 _ _ _
      refine wpOp_call (f := 98) (args := #[.pointer (some ⟨g, 0, none⟩)]) rfl rfl (by go_simp) (HFIN.mono ?_)
      rintro e w3 ⟨rfl, _, hb3⟩
      refine ⟨_, rfl, _, rfl, (fun h => by cases h), GrownT.of_none (by_below hb3 (Nat.le_refl _)), hbe.trans (hb3.mono hbe.size), ?_⟩
      show _ = _
      rw [HYE.out]
      rfl
  case hK =>
    intro y w2 hf hv hch
    have hbe : Below w1.heap.size w1 w2 := hch
    have e4 : y.tmps[4]?.getD undef = .string Y := hv 20 (by omega)
    have e0 : y.tmps[0]? = some (.pointer (some ⟨g0, 0, none⟩)) := by rw [hf.2.2 0 (by decide)]; rfl
    have hd : y.defers = [] := hf.1
    have hsz : y.tmps.size = 34 := hf.2.1
    obtain ⟨tt, dd⟩ := y
    obtain rfl : dd = [] := hd
    have hsz : tt.size = 34 := hsz
    have e4' : tt[4]?.getD undef = .string Y := e4
    have HBE := Lib.hid hbe
    clear hf hv e4 e0 hbe hch
    obtain ⟨x0, x1, x2, x3, x4, x5, x6, x7, x8, x9, x10, x11, x12, x13, x14, x15, x16, x17, x18, x19, x20, x21, x22, x23, x24, x25, x26, x27, x28, x29, x30, x31, x32, x33, rfl⟩ := arr34 tt hsz
    obtain rfl : x4 = .string Y := by simpa using e4'
    clear e4' hsz
    go_wp2_with fail
    refine (HSEAL.out _ _ _ (txts_at _ _ _ _ rfl rfl)).mono ?_
    rintro e w4 ⟨rfl, hb4⟩
    have HB4 := Lib.hid hb4
    clear hb4
    go_wp2_with fail
    go_ret2
    exact ⟨rfl, (HBE.out.alloc HBE.out.size _).trans (HB4.out.mono (by have := HBE.out.size; simp; omega))⟩
theorem rlay_none (w : World) : Calls Tryz.prog 56 #[.pointer none] w fun e w' => e = .returned (.tuple #[.string .empty, .int .i64 1]) ∧ w' = w := by
  have HS := Lib.hid (size_none w)
  go_enter Tryz.func56, Tryz.ntmps56
  go_wp2_with fail
  refine HS.out.mono ?_
  rintro e w1 ⟨rfl, rfl⟩
  go_wp2_with fail
  go_ret2
  exact ⟨rfl, rfl⟩
theorem num_first {l : List UInt8} {k : Nat} (h : k ≤ l.length) (hk : k ≤ 7) : (Rd.mk (bs l) 0).num k = ((low (l.take k) : Int), (⟨bs (l.drop k), 0⟩ : Rd)) := by
  have e : l = lowBytes k (low (l.take k)) ++ l.drop k := by
    have h1 := lowBytes_low (l.take k)
    rw [List.length_take, Nat.min_eq_left h] at h1
    rw [h1, List.take_append_drop]
  have hlt : low (l.take k) < 256 ^ k := by
    have := low_lt (l.take k)
    rwa [List.length_take, Nat.min_eq_left h] at this
  have h7 : 256 ^ k ≤ 256 ^ 7 := Nat.pow_le_pow_right (by omega) hk
  have := num_bs k (low (l.take k)) (l.drop k) hlt (by omega)
  rwa [← e] at this
theorem index_str (w : World) (s : ByteArray) (j : Nat) (x : UInt8) (h : s[j]? = some x) : (Instr.index 9 (.string s) (.int .i64 (j : Int))).run Tryz.prog w = .ok (.int .u8 (x.toNat : Int)) w := by
  simp [Instr.index, asIntOf, Sem.run_bind, run_underlying Tryz.underlying9, Result.andThen, h]
theorem openB_ok {l : List UInt8} (h : (openB l).2 = 0) : (openB l).1 = l.take (l.length - 4) := by
  unfold openB at h ⊢
  split
  · rename_i h'; rw [if_pos h'] at h; exact absurd h (by decide)
  · rename_i h'
    rw [if_neg h'] at h
    split
    · rfl
    · rename_i h2; rw [if_neg h2] at h; exact absurd h (by decide)
set_option maxRecDepth 100000 in
set_option maxHeartbeats 4000000 in
theorem rparse_any (l : List UInt8) (w : World) (hl : l.length = 252) :
    Calls Tryz.prog 105 #[.string (bs l)] w fun e w' => Below w.heap.size w w' ∧
      ((1 ≤ sizeN l ∧ sizeN l ≤ 1900 ∧ ∃ g, e = .returned (.pointer (some ⟨g, 0, none⟩)) ∧ RoomAt w' g (sizeN l) (bitsH l (sizeN l)) ∧ w.heap.size ≤ g) ∨
       (¬ (1 ≤ sizeN l ∧ sizeN l ≤ 1900) ∧ e = .returned (.pointer none))) := by
  have N1 := num_first (l := l) (k := 1) (by omega) (by omega)
  have N2 := num_first (l := l.drop 1) (k := 2) (by rw [List.length_drop]; omega) (by omega)
  obtain ⟨Y, hY⟩ : ∃ Y, Y = bs l := ⟨_, rfl⟩
  have HON : Hid (∀ W, Calls Tryz.prog 131 #[.string Y] W fun e w' => ∃ g, e = .returned (.pointer (some ⟨g, 0, none⟩)) ∧ W.heap.size ≤ g ∧ InAt w' g ⟨Y, 0⟩ ∧ Below W.heap.size W w') := Lib.hid (fun W => on_any Y W (by rw [hY, bs_size]; omega))
  have HBY : Hid (∀ (W : World) (g : Nat), InAt W g ⟨Y, 0⟩ → Calls Tryz.prog 133 #[.pointer (some ⟨g, 0, none⟩)] W fun e w' => e = .returned (.int .i64 (low (l.take 1) : Int)) ∧ InAt w' g ⟨bs (l.drop 1), 0⟩ ∧ W.grownBy w' (some g)) := Lib.hid (fun W g hi => by
    have := in_byte g _ W hi (by show Y.size ≤ _; rw [hY, bs_size]; omega)
    rw [hY, N1] at this
    exact this)
  obtain ⟨n, hn⟩ : ∃ n, n = sizeN l := ⟨_, rfl⟩
  have HHF : Hid (∀ (W : World) (g : Nat), InAt W g ⟨bs (l.drop 1), 0⟩ → Calls Tryz.prog 134 #[.pointer (some ⟨g, 0, none⟩)] W fun e w' => e = .returned (.int .i64 (n : Int)) ∧ W.grownBy w' (some g)) := Lib.hid (fun W g hi => by
    have := in_half g _ W hi (by show (bs (l.drop 1)).size ≤ _; rw [bs_size, List.length_drop]; omega)
    rw [N2] at this
    refine this.mono ?_
    rintro e w' ⟨rfl, _, hg⟩
    exact ⟨by rw [hn]; rfl, hg⟩)
  obtain ⟨k1, hk1⟩ : ∃ k1 : Int, k1 = (low (l.take 1) : Int) := ⟨_, rfl⟩
  obtain ⟨Y1, hY1⟩ : ∃ Y1, Y1 = bs (l.drop 1) := ⟨_, rfl⟩
  rw [← hk1, ← hY1] at HBY
  rw [← hY1] at HHF
  have HYL : Hid (∀ i, i < 252 → Y[i]? = some (l.getD i 0)) := Lib.hid (fun i hi => by
    rw [hY]
    show (bs l)[i]? = _
    rw [getElem?_pos (bs l) i (by rw [bs_size]; omega)]
    rw [List.getD_eq_getElem?_getD, List.getElem?_eq_getElem (by omega)]
    rfl)
  have hn64 : n < 65536 := by rw [hn]; exact sizeN_lt l
  rw [← hY, ← hn]
  clear N1 N2 hY hn hk1 hY1 hl
  go_enter Tryz.func105, Tryz.ntmps105
  go_wp2_with fail
  refine (HON.out _).mono ?_
  rintro e w1 ⟨gi, rfl, hgi, hi1, hb1⟩
  have HI1 := Lib.hid hi1
  have HB1 := Lib.hid hb1
  have HGI := Lib.hid hgi
  clear hgi hi1 hb1
  go_wp2_with fail
  refine (HBY.out _ _ HI1.out).mono ?_
  rintro e w2 ⟨rfl, hi2, hg2⟩
  have HI2 := Lib.hid hi2
  have HB2 := Lib.hid (below_by_new HB1.out hg2 HGI.out)
  clear hi2 hg2
  go_wp2_with fail
  refine (HHF.out _ _ HI2.out).mono ?_
  rintro e w3 ⟨rfl, hg3⟩
  have HB3 := Lib.hid (below_by_new HB2.out hg3 HGI.out)
  clear hg3 HI1 HB1 HI2 HB2
  by_cases hin : 1 ≤ n ∧ n ≤ 1900
  · obtain ⟨n1, n2⟩ := hin
    have HNW : Hid (Calls Tryz.prog 40 #[.int .i64 (n : Int), .slice none 0 0] w3 fun e w' => ∃ g, e = .returned (.tuple #[.pointer (some ⟨g, 0, none⟩), .int .i64 0]) ∧ RoomAt w' g n [] ∧ w3.heap.size ≤ g ∧ Below w3.heap.size w3 w') := Lib.hid (by
      refine (rnew_any n none 0 0 [] w3 n1 n2 rfl (Ints.nil _ _ _) (by omega)).mono ?_
      rintro e w' ⟨hb, h | h⟩
      · obtain ⟨_, rfl, hr⟩ := h
        exact ⟨_, rfl, hr, Nat.le_refl _, hb⟩
      · exact absurd (fun x hx => by cases hx) h.1)
    go_wp2_with fail
    refine HNW.out.mono ?_
    rintro e w4 ⟨g, rfl, hr, hg, hb⟩
    have HT0 := Lib.hid (RoomTurns.refl hr)
    have HG := Lib.hid (Nat.le_trans HB3.out.size hg)
    have HB4 := Lib.hid (HB3.out.trans (hb.mono HB3.out.size))
    have HSZ := Lib.hid (size_any hr)
    clear hr hg hb HNW
    go_wp2_with fail
    refine HSZ.out.mono ?_
    rintro e w5 ⟨rfl, rfl⟩
    go_wp2_with fail
    go_loopw [19] (fun i wr => ∃ (j : Nat), j ≤ n ∧ i = .int .i64 j ∧ RoomTurns w5 wr g n (bitsH l j)) (fun i _ => n - (intOf i).toNat)
    case atStart => exact ⟨0, Nat.zero_le _, rfl, HT0.out⟩
    case round =>
      obtain ⟨j, hj, rfl, hT⟩ := hrel
      have HT := Lib.hid hT
      clear hT
      by_cases hlt : j < n
      · have hjI : (j : Int) < (n : Int) := by omega
        obtain ⟨k, hk⟩ : ∃ k, k = j / 8 := ⟨_, rfl⟩
        obtain ⟨t, ht⟩ : ∃ t, t = 3 + k := ⟨_, rfl⟩
        obtain ⟨x, hx⟩ : ∃ x, x = l.getD t 0 := ⟨_, rfl⟩
        obtain ⟨y, hy⟩ : ∃ y, y = 2 ^ (j % 8) := ⟨_, rfl⟩
        obtain ⟨z, hz⟩ : ∃ z, z = x.toNat &&& y := ⟨_, rfl⟩
        obtain ⟨r, hr⟩ : ∃ r, r = bitAt l j := ⟨_, rfl⟩
        have hq' : (j : Int) / 8 = (k : Int) := by omega
        have hq : (j : Int).tdiv 8 = (k : Int) := by rw [Int.tdiv_eq_ediv_of_nonneg (by omega)]; exact hq'
        have hkw : IntKind.i64.wrap (k : Int) = (k : Int) := by rw [IntKind.wrap_i64]; omega
        have e1 : IntKind.i64.wrap (3 + (k : Int)) = (t : Int) := by rw [IntKind.wrap_i64]; omega
        have hix : ∀ W, (Instr.index 9 (.string Y) (.int .i64 (t : Int))).run Tryz.prog W = .ok (.int .u8 (x.toNat : Int)) W := fun W => index_str W Y t x (by rw [hx]; exact HYL.out t (by omega))
        have hand : bits .and .u8 (x.toNat : Int) (y : Int) = (z : Int) := by
          rw [hz]
          exact u8_and_nat x.toNat y x.toNat_lt (by rw [hy]; exact bit_lt _ (by omega))
        have hzr : ((z : Int) != 0) = r := by
          have hp : 0 < 2 ^ (j % 8) := Nat.two_pow_pos _
          rw [hz, hy, nat_bit, hr]
          unfold bitAt
          rw [← hk, ← ht, ← hx]
          have h2 : x.toNat / 2 ^ (j % 8) % 2 < 2 := Nat.mod_lt _ (by omega)
          obtain ⟨q, hq9⟩ : ∃ q, q = x.toNat / 2 ^ (j % 8) % 2 := ⟨_, rfl⟩
          rw [← hq9] at h2 ⊢
          rcases (show q = 0 ∨ q = 1 by omega) with rfl | rfl
          · simp
          · rw [Nat.one_mul]
            have : ((2 ^ (j % 8) : Nat) : Int) ≠ 0 := by omega
            simpa using this
        have HBT : Hid (∀ W, Calls Tryz.prog 79 #[.int .i64 (j : Int)] W fun e w' => e = .returned (.int .u8 (y : Int)) ∧ w' = W) := Lib.hid (fun W => by rw [hy]; exact bit_any j (by omega) W)
        have E1 : Hid (bitsH l (j + 1) = if r = true then putL (j : Int) (bitsH l j) else bitsH l j) := Lib.hid (by rw [hr]; exact bitsH_put l j)
        clear hk ht hx hy hz hr
        cases r with
        | true =>
          rw [if_pos rfl] at E1
          go_wp2_with fail
          go_quiet (first | (go_at_call 79; with_reducible refine Calls.quiet_of_same (HBT.out _)))
          have HT2 := Lib.hid (HT.out.drewN nq)
          have HS := Lib.hid (rset_any j HT2.out.room hlt)
          go_wp2_with fail
          refine HS.out.mono ?_
          rintro e w6 ⟨rfl, hT6⟩
          have HT6 := Lib.hid (HT2.out.trans hT6)
          clear hT6
          go_wp2_with fail
          go_roundw
          case rel => exact ⟨j + 1, by omega, by go_num, by rw [E1.out]; exact HT6.out⟩
          case measure => simp [intOf]; omega
        | false =>
          rw [if_neg (by decide)] at E1
          go_wp2_with fail
          go_quiet (first | (go_at_call 79; with_reducible refine Calls.quiet_of_same (HBT.out _)))
          have HT2 := Lib.hid (HT.out.drewN nq)
          go_wp2_with fail
          go_roundw
          case rel => exact ⟨j + 1, by omega, by go_num, by rw [E1.out]; exact HT2.out⟩
          case measure => simp [intOf]; omega
      · obtain rfl : j = n := by omega
        go_wp2_with fail
        go_ret
        exact ⟨HT.out.under HB4.out HG.out HB4.out.size, .inl ⟨n1, n2, g, rfl, HT.out.room, HG.out⟩⟩
  · have HNW := Lib.hid (rnew_none (n : Int) (.slice none 0 0) w3 (by omega))
    have HIN := Lib.hid hin
    have HSZ := Lib.hid (size_none w3)
    clear hin
    go_wp2_with fail
    refine HNW.out.mono ?_
    rintro e w4 ⟨rfl, rfl⟩
    go_wp2_with fail
    refine HSZ.out.mono ?_
    rintro e w5 ⟨rfl, rfl⟩
    go_wp2_with fail
    go_loopw [19] (fun i wr => i = .int .i64 0 ∧ wr = w5) (fun _ _ => 0)
    case atStart => exact ⟨rfl, rfl⟩
    case round =>
      obtain ⟨rfl, rfl⟩ := hrel
      go_wp2_with fail
      go_ret
      exact ⟨HB3.out, .inr ⟨HIN.out, rfl⟩⟩
theorem same_text {a b : ByteArray} : (a.toList == b.toList) = decide (a = b) := by
  rw [Lib.toList_data, Lib.toList_data]
  by_cases h : a = b
  · subst h; simp
  · rw [decide_eq_false h]
    simp only [beq_eq_false_iff_ne, ne_eq]
    intro e
    exact h (ByteArray.ext (Array.toList_inj.1 e))
def ReadAt (B : Nat) (r : Nat × List Int × Int) (e : Ending) (w' : World) : Prop :=
  (r.2.2 = 0 ∧ 1 ≤ r.1 ∧ ∃ g, e = .returned (.tuple #[.pointer (some ⟨g, 0, none⟩), .int .i64 0]) ∧ RoomAt w' g r.1 r.2.1 ∧ B ≤ g) ∨
  (r.2.2 ≠ 0 ∧ e = .returned (.tuple #[.pointer none, .int .i64 r.2.2]))
set_option maxRecDepth 100000 in
set_option maxHeartbeats 4000000 in
theorem rread_room (X : ByteArray) (w : World) :
    Calls Tryz.prog 59 #[.string X] w fun e w' => Below w.heap.size w w' ∧ ReadAt w.heap.size (readR X.data.toList) e w' := by
  have hxl : X.data.toList.length = X.size := (Lib.size_eq X).symm
  by_cases h256 : X.size = 256
  · have h256I : (X.size : Int) = 256 := by omega
    have HOP : Hid (∀ W, Calls Tryz.prog 104 #[.string X] W fun e w' => e = .returned (openV X.data.toList) ∧ Below W.heap.size W w') := Lib.hid (fun W => open_any X W (by omega))
    obtain ⟨L, hL⟩ : ∃ L, L = (openB X.data.toList).1 := ⟨_, rfl⟩
    obtain ⟨eo, heo⟩ : ∃ eo, eo = (openB X.data.toList).2 := ⟨_, rfl⟩
    obtain ⟨BL, hBL⟩ : ∃ BL, BL = bs L := ⟨_, rfl⟩
    have hov : openV X.data.toList = .tuple #[.string BL, .int .i64 eo] := by unfold openV; rw [← hL, ← heo, hBL]; rfl
    rw [hov] at HOP
    by_cases he : eo = 0
    · have hL252 : L.length = 252 := by
        have := openB_ok (l := X.data.toList) (by rw [← heo]; exact he)
        rw [hL, this, List.length_take, hxl]
        omega
      have hR : readR X.data.toList = if ¬ (1 ≤ sizeN L ∧ sizeN L ≤ 1900) then (0, [], 6) else if roomT (sizeN L) (bitsH L (sizeN L)) = X.data.toList then (sizeN L, bitsH L (sizeN L), 0) else (0, [], 6) := by
        unfold readR
        rw [← hL, ← heo, if_neg (by omega), if_neg (by omega)]
      rw [hR]
      have HPA : Hid (∀ W, Calls Tryz.prog 105 #[.string BL] W fun e w' => Below W.heap.size W w' ∧ ((1 ≤ sizeN L ∧ sizeN L ≤ 1900 ∧ ∃ g, e = .returned (.pointer (some ⟨g, 0, none⟩)) ∧ RoomAt w' g (sizeN L) (bitsH L (sizeN L)) ∧ W.heap.size ≤ g) ∨ (¬ (1 ≤ sizeN L ∧ sizeN L ≤ 1900) ∧ e = .returned (.pointer none)))) := Lib.hid (fun W => by rw [hBL]; exact rparse_any L W hL252)
      obtain ⟨n, hn⟩ : ∃ n, n = sizeN L := ⟨_, rfl⟩
      obtain ⟨H, hH⟩ : ∃ H, H = bitsH L n := ⟨_, rfl⟩
      rw [← hn, ← hH] at HPA ⊢
      obtain ⟨R, hRR⟩ : ∃ R : Nat × List Int × Int, R = if ¬ (1 ≤ n ∧ n ≤ 1900) then (0, [], 6) else if roomT n H = X.data.toList then (n, H, 0) else (0, [], 6) := ⟨_, rfl⟩
      rw [← hRR]
      have HRR := Lib.hid hRR
      obtain ⟨T, hT⟩ : ∃ T, T = bs (roomT n H) := ⟨_, rfl⟩
      have hTX : (T = X) ↔ roomT n H = X.data.toList := by
        rw [hT]
        constructor
        · intro h; rw [← h, bs_list]
        · intro h; rw [h, list_bs]
      have HTX := Lib.hid hTX
      have HTT := Lib.hid hT
      have HEM : Hid (¬ ByteArray.empty = X) := Lib.hid (fun h => by rw [← h] at h256; exact absurd h256 (by decide))
      subst he
      clear hov hL heo hBL hL252 hR hn hH hTX hT hxl h256 hRR
      go_enter Tryz.func59, Tryz.ntmps59
      go_wp2_with fail
      refine (HOP.out _).mono ?_
      rintro e w1 ⟨rfl, hb1⟩
      have HB1 := Lib.hid hb1
      clear hb1
      go_wp2_with fail
      refine (HPA.out _).mono ?_
      rintro e w2 ⟨hb2, h | h⟩
      · obtain ⟨n1, n2, g, rfl, hr, hg⟩ := h
        have HB2 := Lib.hid (HB1.out.trans (hb2.mono HB1.out.size))
        have HR2 := Lib.hid hr
        have HG := Lib.hid (Nat.le_trans HB1.out.size hg)
        have HLY : Hid (Calls Tryz.prog 56 #[.pointer (some ⟨g, 0, none⟩)] w2 fun e w' => e = .returned (.tuple #[.string T, .int .i64 0]) ∧ Below w2.heap.size w2 w') := Lib.hid (by rw [HTT.out]; exact rlay_room hr n1)
        have HNN := Lib.hid (And.intro n1 n2)
        clear hb2 hr hg n1 n2
        go_wp2_with fail
        refine HLY.out.mono ?_
        rintro e w3 ⟨rfl, hb3⟩
        have HB3 := Lib.hid (HB2.out.trans (hb3.mono HB2.out.size))
        have HR3 := Lib.hid (HR2.out.below hb3)
        clear hb3
        by_cases hs : T = X
        · have hse : (T.toList == X.toList) = true := by rw [same_text]; exact decide_eq_true hs
          have HS := Lib.hid hs
          clear hs
          go_wp2_with fail
          go_ret2
          rw [HRR.out, if_neg (fun h => h HNN.out), if_pos (HTX.out.1 HS.out)]
          exact ⟨HB3.out, .inl ⟨rfl, HNN.out.1, g, rfl, HR3.out, HG.out⟩⟩
        · have hse : (T.toList == X.toList) = false := by rw [same_text]; exact decide_eq_false hs
          have HS := Lib.hid hs
          clear hs
          go_wp2_with fail
          go_ret2
          rw [HRR.out, if_neg (fun h => h HNN.out), if_neg (fun h => HS.out (HTX.out.2 h))]
          exact ⟨HB3.out, .inr ⟨by decide, rfl⟩⟩
      · obtain ⟨hno, rfl⟩ := h
        have HB2 := Lib.hid (HB1.out.trans (hb2.mono HB1.out.size))
        have HNO := Lib.hid hno
        have HLY := Lib.hid (rlay_none w2)
        have hse : X.toList.isEmpty = false := by
          rw [Lib.toList_data]
          cases hl : X.data.toList with
          | nil =>
            exfalso
            apply HEM.out
            apply ByteArray.ext
            apply Array.toList_inj.1
            rw [hl]
            rfl
          | cons _ _ => rfl
        clear hb2 hno
        go_wp2_with fail
        refine HLY.out.mono ?_
        rintro e w3 ⟨rfl, rfl⟩
        go_wp2_with fail
        go_ret2
        rw [HRR.out, if_pos HNO.out]
        exact ⟨HB2.out, .inr ⟨by decide, rfl⟩⟩
    · have hR : readR X.data.toList = (0, [], eo) := by
        unfold readR
        rw [← heo, if_neg (by omega), if_pos he]
      rw [hR]
      have HE := Lib.hid he
      clear hov hL heo hBL hR hxl h256
      go_enter Tryz.func59, Tryz.ntmps59
      go_wp2_with fail
      refine (HOP.out _).mono ?_
      rintro e w1 ⟨rfl, hb1⟩
      have HB1 := Lib.hid hb1
      clear hb1
      go_wp2_with fail
      go_ret2
      exact ⟨HB1.out, .inr ⟨HE.out, rfl⟩⟩
  · have h256I : ¬ (X.size : Int) = 256 := by omega
    have hR : readR X.data.toList = (0, [], 5) := by unfold readR; rw [if_pos (by omega)]
    rw [hR]
    clear hR hxl
    go_enter Tryz.func59, Tryz.ntmps59
    go_wp2_with fail
    go_ret2
    exact ⟨Below.refl _ _, .inr ⟨by decide, rfl⟩⟩
end Go.Proofs.YtiagofgcinlnhaaGreatDoor
