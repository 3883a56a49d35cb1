/-
  The document's own LayRoom and ReadRoom. No statement is proved here.
-/
import Derived.Test.YtiagofgcinlnhaaGreatDoorShelf
import Derived.BigCall
import Derived.Deep.AppendLies
import Derived.Deep.RegionHeld3
import Derived.Deep.QuietTactic
import Derived.BigQuiet
import Derived.Test.YtiagofgcinlnhaaGreatDoorRegionApp
import Derived.Test.YtiagofgcinlnhaaGreatDoorTexts
import Derived.Lib.Bytes
import Derived.Test.YtiagofgcinlnhaaGreatDoorCrcOf
import Derived.Test.YtiagofgcinlnhaaGreatDoorWalSmall
import Derived.Test.YtiagofgcinlnhaaGreatDoorHeadRead
import Derived.Test.YtiagofgcinlnhaaGreatDoorDiskClone
import Derived.Test.YtiagofgcinlnhaaGreatDoorRoomRead
import Derived.OwnWalk
import Derived.Test.YtiagofgcinlnhaaGreatDoorGrow
namespace Go.Proofs.YtiagofgcinlnhaaGreatDoor
open Go.RowKit
def Lent (w : World) (B g cap : Nat) (xs : List ByteArray) : Prop :=
  B ≤ g ∧ g < w.heap.size ∧ xs.length + 1 ≤ cap ∧ cap ≤ 9223372036854775807 ∧ ∀ (j : Nat) (x : ByteArray), (xs ++ [⟨#[109, 97, 114, 107]⟩])[j]? = some x → w.cell? ⟨g, j, none⟩ = some (.string x)
theorem Lent.below {w w' : World} {B g cap : Nat} {xs : List ByteArray} (h : Lent w B g cap xs) (hb : Below w.heap.size w w') : Lent w' B g cap xs := by
  obtain ⟨h0, h1, h2, h3, h4⟩ := h
  exact ⟨h0, Nat.lt_of_lt_of_le h1 hb.size, h2, h3, fun j x hx => (hb.cell (p := ⟨g, j, none⟩) h1).trans (h4 j x hx)⟩
theorem Lent.txts {w : World} {B g cap : Nat} {xs : List ByteArray} (h : Lent w B g cap xs) : Txts w w.heap.size (some ⟨g, 0, none⟩) xs := by
  obtain ⟨h0, h1, h2, h3, h4⟩ := h
  intro _
  refine ⟨g, 0, rfl, h1, fun j x hx => ?_⟩
  rw [Nat.zero_add]
  have hj : j < xs.length := by
    rcases Nat.lt_or_ge j xs.length with h | h
    · exact h
    · rw [List.getElem?_eq_none h] at hx; cases hx
  exact h4 j x (by rw [List.getElem?_append_left hj]; exact hx)
theorem low_cell (l : List UInt8) (m : Nat) : Lib.byteCells l ++ [Value.int .u8 ((m : Int) % 256)] = Lib.byteCells (l ++ lowBytes 1 m) := by
  simp [Lib.byteCells, lowBytes, Nat.toUInt8]
theorem lowBytes_more (j m : Nat) : lowBytes j m ++ lowBytes 1 (m / 256 ^ j) = lowBytes (j + 1) m := by
  rw [lowBytes_snoc j m]
  rfl
theorem low_div (j m : Nat) : m / 256 ^ (j + 1) = m / 256 ^ j / 256 := by rw [Nat.pow_succ, Nat.div_div_eq_div_mul]
set_option maxRecDepth 100000 in
set_option maxHeartbeats 2000000 in
theorem ref_lowbytes (m k : Nat) (w : World) (hm : m < 18446744073709551616) (hk0 : 0 < k) (hk : k ≤ 8) :
    Calls Tryz.prog 78 #[.int .u64 m, .int .i64 k] w fun e w' => e = .returned (.string ⟨(lowBytes k m).toArray⟩) ∧ Below w.heap.size w w' := by
  obtain ⟨i0, hi, hz0, hz1, hz2⟩ := info_parts byte_info
  go_enter Tryz.func78, Tryz.ntmps78
  go_wp2_with fail
  go_loopw [0, 5, 6] (fun x v i wr => ∃ j : Nat, j ≤ k ∧ i = .int .i64 j ∧ x = .int .u64 ((m / 256 ^ j : Nat) : Int) ∧ wr.ownsRow w.heap.size 5 1 v j (Lib.byteCells (lowBytes j m)) ∧ Below w.heap.size w wr) (fun _ _ i _ => k - (intOf i).toNat)
  case atStart => exact ⟨0, Nat.zero_le _, rfl, by simp, World.ownsRow_nil _ _ _ _, Below.refl _ _⟩
  case round =>
    obtain ⟨j, hj, rfl, rfl, hown, hbr⟩ := hrel
    by_cases hlt : j < k
    · have HJ := Lib.hid (low_div j m)
      have HL := Lib.hid (lowBytes_more j m)
      have HLL := Lib.hid (show (Lib.byteCells (lowBytes j m)).length = j by rw [Lib.byteCells_length, lowBytes_length])
      obtain ⟨M, hM⟩ : ∃ M, M = m / 256 ^ j := ⟨_, rfl⟩
      have hMl : M < 18446744073709551616 := by rw [hM]; exact Nat.lt_of_le_of_lt (Nat.div_le_self _ _) hm
      rw [← hM]
      have HM := Lib.hid hM
      clear hM hm
      have HOWN := Lib.hid hown
      clear hown
      go_wp2_with (at_builtin; refine wpList_append_lies _ rfl (.tmp 12) (.tmp 15) 81 rfl w.heap.size 5 i0 (.int .u8 0) 1 1 Tryz.underlying81 hi hz0 hz1 hz2 rfl (by omega) _ j _ rfl (HOWN.out.alloc _) ⟨wr.heap.size, 0, none⟩ 1 1 [.int .u8 ((M : Int) % 256)] rfl rfl ?c1 ?c2 (by omega) (by unfold maxLen; omega) (by omega) (by have := hbr.size; simp; omega) _ rfl ?_)
      case c1 =>
        intro a u ha
        match a, ha with
        | 0, ha => simp at ha; subst ha; simp [Addr.add]
      case c2 => intro u hu; simp at hu; subst hu; rfl
      intro g cap w1 hown1 hg1 hor hlt1
      have hb1 : Below w.heap.size w w1 := (hbr.alloc hbr.size _).grown hg1 (by have := hbr.size; simp; omega) (fun k hk => (HOWN.out.lt k hk).1)
      have HB1 := Lib.hid hb1
      rw [low_cell] at hown1
      have HOW := Lib.hid hown1
      clear hown1 hg1 hor hb1 hbr
      go_wp2
      go_roundw
      case rel => exact ⟨j + 1, by omega, by go_num, by rw [HJ.out, ← HM.out]; simp, by have h := HOW.out; rw [HM.out, HL.out] at h; exact h, HB1.out⟩
      case measure => simp [intOf]; omega
    · obtain rfl : j = k := by omega
      obtain ⟨g, cap, rfl, hg0, hlt1⟩ := hown.form hk0
      have hcv := run_convert_bytes_back (P := Tryz.prog) wr 81 9 5 ⟨g, 0, none⟩ cap (lowBytes j m) Tryz.underlying81 Tryz.underlying5 Tryz.underlying9
        (fun i hi => hown.cells (g := g) rfl i _ (by simp [Lib.byteCells, List.getElem?_eq_getElem hi]))
      rw [lowBytes_length] at hcv
      clear hown
      go_wp2
      go_ret
      exact ⟨rfl, hbr⟩
theorem ref_low4 (m : Nat) (w : World) (hm : m < 4294967296) :
    Calls Tryz.prog 78 #[.int .u64 m, .int .i64 4] w fun e w' => e = .returned (.string ⟨(lowBytes 4 m).toArray⟩) ∧ Below w.heap.size w w' :=
  ref_lowbytes m 4 w (by omega) (by omega) (by omega)
theorem not_xor (x : Nat) (h : x < 4294967296) : bits .xor .u32 IntKind.u32.max (x : Int) = ((x ^^^ 4294967295 : Nat) : Int) := by
  show bits .xor .u32 ((4294967295 : Nat) : Int) (x : Int) = _
  rw [u32_xor_nat 4294967295 x (by omega) h, Nat.xor_comm]
set_option maxHeartbeats 1000000 in
theorem ref_crc (x : ByteArray) (w : World) (hx : x.size ≤ 140737488351232) :
    Calls Tryz.prog 114 #[.string x] w fun e w' => e = .returned (.int .u32 (crc x.data.toList)) ∧ w = w' := by
  go_enter Tryz.func114, Tryz.ntmps114
  go_wp2
  go_loop [3, 4] (fun v i => ∃ k : Nat, k ≤ x.size ∧ i = .int .i64 k ∧ v = .int .u32 (crcFold 4294967295 (x.data.toList.take k))) (fun _ i => x.size - (intOf i).toNat)
  case atStart => exact ⟨0, Nat.zero_le _, rfl, rfl⟩
  case round =>
    obtain ⟨k, hk, rfl, rfl⟩ := hrel
    have ht := crcFold_lt (x.data.toList.take k) (x := 4294967295) (by omega)
    by_cases hkx : k < x.size
    · have hf := fold_next 4294967295 hkx
      obtain ⟨t, ht0⟩ : ∃ t, t = crcFold 4294967295 (x.data.toList.take k) := ⟨_, rfl⟩
      rw [← ht0] at ht hf ⊢
      have HF := Lib.hid hf
      have hb := byte_cast t x[k] ht
      have hl := byte_xor_lt x[k] ht
      obtain ⟨y, hy⟩ : ∃ y, y = t ^^^ x[k].toNat := ⟨_, rfl⟩
      rw [← hy] at hb hl
      have HY := Lib.hid hy
      clear ht0 hf hy
      go_wp2_with fail
      clear hb
      go_loop [3, 5] (fun v i => ∃ j : Nat, j ≤ 8 ∧ i = .int .i64 j ∧ v = .int .u32 (shifts j y)) (fun _ i => 8 - (intOf i).toNat)
      case atStart => exact ⟨0, Nat.zero_le _, rfl, rfl⟩
      case round =>
        obtain ⟨j, hj, rfl, rfl⟩ := hrel
        by_cases hlt : j < 8
        · have hz := shifts_lt j hl
          have hs : shifts (j + 1) y = shift1 (shifts j y) := rfl
          have HS := Lib.hid hs
          clear hs
          generalize shifts j y = z at *
          by_cases ho : z % 2 = 1
          · have e1 : ((z : Int) % 2 == 1) = true := by rw [beq_iff_eq]; omega
            have HO := Lib.hid (shift1_odd ho)
            clear ho
            go_wp2
            go_round
            case rel => exact ⟨j + 1, by omega, by go_num, by rw [HS.out, HO.out, half_cast, poly_cast z hz]⟩
            case measure => simp [intOf]; omega
          · have e1 : ((z : Int) % 2 == 1) = false := by rw [beq_eq_false_iff_ne]; omega
            have HO := Lib.hid (shift1_even ho)
            clear ho
            go_wp2
            go_round
            case rel => exact ⟨j + 1, by omega, by go_num, by rw [HS.out, HO.out, half_cast]⟩
            case measure => simp [intOf]; omega
        · obtain rfl : j = 8 := by omega
          go_wp2
          go_round
          case rel => exact ⟨k + 1, by omega, by go_num, by rw [HF.out, crcByte_shifts, HY.out]⟩
          case measure => simp [intOf]; omega
    · have hk2 : x.data.toList.take k = x.data.toList := List.take_of_length_le (by rw [Array.length_toList]; show x.size ≤ k; omega)
      rw [hk2] at ht ⊢
      clear hk2
      go_wp2
      go_ret
      exact ⟨ret_u32 (not_xor _ ht), rfl⟩
theorem append_list (s t : ByteArray) : (s ++ t).data.toList = s.data.toList ++ t.data.toList := by
  rw [ByteArray.data_append, Array.toList_append]
theorem append_zeros (s : ByteArray) (N : Nat) : (s ++ zeroB N).data.toList = s.data.toList ++ List.replicate N 0 := by
  rw [append_list, zeroB_list]
theorem append_mk (s : ByteArray) (l : List UInt8) : s ++ ⟨l.toArray⟩ = ⟨(s.data.toList ++ l).toArray⟩ := by
  apply ByteArray.ext
  apply Array.toList_inj.1
  rw [append_list]
set_option maxRecDepth 100000 in
set_option maxHeartbeats 1000000 in
theorem ref_seal (n : Int) (s : ByteArray) (w : World) (hs : s.size ≤ 1000000) :
    Calls Tryz.prog 77 #[.int .i64 n, .string s] w fun e w' => e = .returned (sealV n s.data.toList) ∧ Below w.heap.size w w' := by
  by_cases ha : n < 4 ∨ 65536 < n
  · have E : sealV n s.data.toList = .tuple #[.string .empty, .int .i64 1] := by unfold sealV; rw [sealB_arg ha]; rfl
    rw [E]
    clear E
    by_cases h1 : n < 4
    · go_enter Tryz.func77, Tryz.ntmps77
      go_wp2_with fail
      go_ret2
      exact ⟨rfl, Below.refl _ _⟩
    · have h2 : 65536 < n := by omega
      clear ha
      go_enter Tryz.func77, Tryz.ntmps77
      go_wp2_with fail
      go_ret2
      exact ⟨rfl, Below.refl _ _⟩
  · have h0 : 4 ≤ n := by omega
    have h1 : n ≤ 65536 := by omega
    clear ha
    by_cases hbig : n - 4 < (s.size : Int)
    · have E : sealV n s.data.toList = .tuple #[.string .empty, .int .i64 2] := by unfold sealV; rw [sealB_long h0 h1 (by rw [← Lib.size_eq]; exact hbig)]; rfl
      rw [E]
      clear E
      go_enter Tryz.func77, Tryz.ntmps77
      go_wp2_with fail
      go_ret2
      exact ⟨rfl, Below.refl _ _⟩
    · have hsm : (s.size : Int) ≤ n - 4 := by omega
      clear hbig
      obtain ⟨N, hN⟩ : ∃ N : Nat, (N : Int) = n - 4 - s.size := ⟨(n - 4 - s.size).toNat, by omega⟩
      have hNb : N ≤ 65532 := by omega
      have eb : body n s.data.toList = (s ++ zeroB N).data.toList := by
        rw [append_zeros]
        unfold body
        rw [← Lib.size_eq]
        congr 2
        omega
      have E : sealV n s.data.toList = .tuple #[.string ((s ++ zeroB N) ++ ⟨(lowBytes 4 (crc (s ++ zeroB N).data.toList)).toArray⟩), .int .i64 0] := by
        unfold sealV
        rw [sealB_ok h0 h1 (by rw [← Lib.size_eq]; exact hsm), eb, append_mk (s ++ zeroB N)]
      rw [E]
      have hz : (s ++ zeroB N).size ≤ 140737488351232 := by rw [ByteArray.size_append, zeroB_size]; omega
      have HN := Lib.hid hN
      have HZ := Lib.hid hz
      clear E eb hN hz
      go_enter Tryz.func77, Tryz.ntmps77
      go_wp2_with fail
      rw [← HN.out]
      refine (ref_zeros N _ (by omega)).mono ?_
      rintro e w1 ⟨rfl, hb1⟩
      have hcl := crc_lt (s ++ zeroB N).data.toList
      have hsz : s.size + (zeroB N).size ≤ 9223372036854775807 := by rw [zeroB_size]; omega
      have hsz2 : (s ++ zeroB N).size + 4 ≤ 9223372036854775807 := by have := HZ.out; omega
      obtain ⟨Z, hZE⟩ : ∃ Z, Z = zeroB N := ⟨_, rfl⟩
      rw [← hZE] at HZ hcl hsz hsz2 ⊢
      have HZE := Lib.hid hZE
      obtain ⟨C, hC⟩ : ∃ C, C = crc (s ++ Z).data.toList := ⟨_, rfl⟩
      have hrc := fun w => ref_crc (s ++ Z) w HZ.out
      simp only [← hC] at hrc hcl
      have HRC := Lib.hid hrc
      have HC := Lib.hid hC
      clear hC hrc hZE
      go_wp2_with fail
      refine (HRC.out _).mono ?_
      rintro e w2 ⟨rfl, rfl⟩
      go_wp2_with fail
      obtain ⟨V, hV⟩ : ∃ V : ByteArray, V = ⟨(lowBytes 4 C).toArray⟩ := ⟨_, rfl⟩
      have hVs : V.size ≤ 4 := by rw [hV, Lib.size_eq]; show (lowBytes 4 C).length ≤ 4; rw [lowBytes_length]; exact Nat.le_refl _
      have hsz3 : (s ++ Z).size + V.size ≤ 9223372036854775807 := by omega
      have hsz4 : s.size + Z.size + V.size ≤ 9223372036854775807 := by rw [ByteArray.size_append] at hsz3; exact hsz3
      have hrl := fun w => ref_low4 C w hcl
      simp only [← hV] at hrl
      have HRL := Lib.hid hrl
      have HV := Lib.hid hV
      clear hV hrl
      refine (HRL.out _).mono ?_
      rintro e w3 ⟨rfl, hb3⟩
      go_wp2_with fail
      go_ret2
      exact ⟨by rw [HV.out, HC.out, HZE.out]; rfl, hb1.trans (hb3.mono hb1.size)⟩
theorem bytesP_false (m : Nat) : bytesP (fun _ => false) m = List.replicate m 0 := by
  apply List.ext_getElem?
  intro k
  unfold bytesP
  rw [List.getElem?_map, List.getElem?_replicate]
  rcases Nat.lt_or_ge k m with h | h
  · rw [List.getElem?_range h, if_pos h]
    rfl
  · rw [List.getElem?_eq_none (by simpa using h), if_neg (by omega)]
    rfl
def cellsP (P : Nat → Bool) (m : Nat) : Array Value := (Lib.byteCells (bytesP P m)).toArray
theorem cellsP_size (P : Nat → Bool) (m : Nat) : (cellsP P m).size = m := by simp [cellsP, Lib.byteCells_length, bytesP_length]
theorem cellsP_get (P : Nat → Bool) {m k : Nat} (hk : k < m) : (cellsP P m)[k]? = some (.int .u8 (byteP P k : Int)) := by
  unfold cellsP Lib.byteCells
  rw [List.getElem?_toArray, List.getElem?_map]
  unfold bytesP
  rw [List.getElem?_map, List.getElem?_range hk]
  simp only [Option.map_some]
  rw [UInt8.toNat_ofNat', Nat.mod_eq_of_lt (byteP_lt _ _)]
theorem cellsP_put (P : Nat → Bool) {m k j : Nat} (hj : j < 8) (b : Nat) (hb : b = byteP P k ||| 2 ^ j) : (cellsP P m).setIfInBounds k (.int .u8 (b : Int)) = cellsP (updP P (k * 8 + j) true) m := by
  apply Array.ext_getElem?
  intro t
  rcases Nat.lt_or_ge t m with ht | ht
  · rw [cellsP_get _ ht]
    by_cases e : k = t
    · subst e
      rw [Array.getElem?_setIfInBounds_self, if_pos (by rw [cellsP_size]; exact ht), hb, byteP_set _ _ _ hj]
    · rw [Array.getElem?_setIfInBounds_ne e, cellsP_get _ ht, updP_off (by omega)]
  · rw [Array.getElem?_eq_none (by rw [Array.size_setIfInBounds, cellsP_size]; exact ht), Array.getElem?_eq_none (by rw [cellsP_size]; exact ht)]
theorem inP_snoc {H : List Int} {j i : Nat} (h : H[j]? = some (i : Int)) : inP (H.take (j + 1)) = updP (inP (H.take j)) i true := by
  funext t
  unfold inP updP
  rw [List.take_add_one, h]
  by_cases e : t = i
  · rw [if_pos e, e]
    exact decide_eq_true (by simp)
  · rw [if_neg e]
    refine decide_eq_decide.2 ?_
    simp only [Option.toList_some, List.mem_append, List.mem_singleton]
    exact ⟨fun h => h.resolve_right (by omega), .inl⟩
set_option maxRecDepth 100000 in
set_option maxHeartbeats 8000000 in
theorem rlayroom_any (n : Nat) (A : Option Addr) (m c : Nat) (H : List Int) (w : World) (hn : n ≤ 1900) (ho : HOk n H) (hm : H.length = m) (hx : Ints w w.heap.size A H) :
    Calls Tryz.prog 42 #[.int .i64 (n : Int), .slice A m c] w fun e w' => e = .returned (.string (bs (roomT n H))) ∧ Below w.heap.size w w' := by
  obtain ⟨q, hq⟩ : ∃ q, q = (n + 7) / 8 := ⟨_, rfl⟩
  have hq238 : q ≤ 238 := by omega
  have hmn : m ≤ n := by rw [← hm]; exact ho.few
  obtain ⟨L1, hL1⟩ : ∃ L, L = bs (lowBytes 1 6) := ⟨_, rfl⟩
  obtain ⟨LN, hLN⟩ : ∃ L, L = bs (lowBytes 2 n) := ⟨_, rfl⟩
  obtain ⟨B, hB⟩ : ∃ B, B = bs (bytesP (inP H) q) := ⟨_, rfl⟩
  have z1 : L1.size = 1 := by rw [hL1, bs_size, lowBytes_length]
  have zN : LN.size = 2 := by rw [hLN, bs_size, lowBytes_length]
  have zB : B.size = q := by rw [hB, bs_size, bytesP_length]
  obtain ⟨T, hT⟩ : ∃ T, T = bs (roomT n H) := ⟨_, rfl⟩
  have HL1 : Hid (∀ W, Calls Tryz.prog 78 #[.int .u64 6, .int .i64 1] W fun e w' => e = .returned (.string L1) ∧ Below W.heap.size W w') := Lib.hid (fun W => by rw [hL1]; exact ref_lowbytes 6 1 W (by omega) (by omega) (by omega))
  have HLN : Hid (∀ W, Calls Tryz.prog 78 #[.int .u64 (n : Int), .int .i64 2] W fun e w' => e = .returned (.string LN) ∧ Below W.heap.size W w') := Lib.hid (fun W => by rw [hLN]; exact ref_lowbytes n 2 W (by omega) (by omega) (by omega))
  have HSE : Hid (∀ W, Calls Tryz.prog 77 #[.int .i64 256, .string (L1 ++ LN ++ B)] W fun e w' => e = .returned (.tuple #[.string T, .int .i64 0]) ∧ Below W.heap.size W w') := Lib.hid (fun W => by
    have := ref_seal 256 (L1 ++ LN ++ B) W (by simp only [ByteArray.size_append]; omega)
    have e : (L1 ++ LN ++ B).data.toList = lowBytes 1 6 ++ lowBytes 2 n ++ bytesP (inP H) ((n + 7) / 8) := by
      rw [append_list, append_list, hL1, hLN, hB, bs_list, bs_list, bs_list, hq]
    rw [e] at this
    unfold sealV at this
    rw [room_doc ho hn] at this
    rw [hT]
    exact this)
  have hwn : IntKind.u64.wrap (n : Int) = (n : Int) := IntWalk.u64_in _ (by omega)
  have hs1 : L1.size + LN.size ≤ 9223372036854775807 := by omega
  have hs2 : (L1 ++ LN).size + B.size ≤ 9223372036854775807 := by simp only [ByteArray.size_append]; omega
  have hs9 : ¬ 9223372036854775807 < 3 + q := by omega
  have hs3 : L1.size + LN.size + B.size ≤ 9223372036854775807 := by omega
  have HX := Lib.hid hx
  have HM := Lib.hid hm
  have HO := Lib.hid ho
  have HBB := Lib.hid hB
  have hd1 : ((n : Int) + 7) / 8 = (q : Int) := by omega
  have hd2 : ((n : Int) + 7).tdiv 8 = (q : Int) := by rw [Int.tdiv_eq_ediv_of_nonneg (by omega)]; exact hd1
  have hqw : IntKind.i64.wrap (q : Int) = (q : Int) := by rw [IntKind.wrap_i64]; omega
  rw [← hT]
  have HQ := Lib.hid hq
  clear hx hm ho hL1 hLN hB hT hq
  have hmk : (Instr.makeSlice 81 (.int .i64 (q : Int)) (.int .i64 (q : Int))).run Tryz.prog w = .ok (.slice (some ⟨w.heap.size, 0, none⟩) q q) (w.alloc (.cells (cellsP (inP []) q) 5)) := by
    have hr := zeros_make w q (by omega)
    have e : cellsP (inP []) q = (Lib.byteCells (zeroB q).data.toList).toArray := by
      unfold cellsP
      rw [show inP [] = fun _ => false from funext fun t => by simp [inP], bytesP_false, zeroB_list]
    rw [e]
    exact hr
  go_enter Tryz.func42, Tryz.ntmps42
  go_wp2_with fail
  go_loopw [6] (fun i wr => ∃ (j : Nat), j ≤ m ∧ i = .int .i64 j ∧ Blk wr w.heap.size 5 (cellsP (inP (H.take j)) q) ∧ Below w.heap.size w wr) (fun i _ => m - (intOf i).toNat)
  case atStart => exact ⟨0, Nat.zero_le _, rfl, Blk.new _ _ _, (Below.refl _ _).alloc (Nat.le_refl _) _⟩
  case round =>
    obtain ⟨j, hj, rfl, hbk, hbr⟩ := hrel
    have HBK := Lib.hid hbk
    have HBR := Lib.hid hbr
    clear hbk hbr
    by_cases hlt : j < m
    · have hjl : j < H.length := by rw [HM.out]; exact hlt
      obtain ⟨b, off, hA, hbB, hc⟩ := HX.out (by omega)
      obtain ⟨x, hx⟩ : ∃ x, x = H[j] := ⟨_, rfl⟩
      have hxj : H[j]? = some x := by rw [hx]; exact List.getElem?_eq_getElem hjl
      obtain ⟨x0, x1⟩ := HO.out.range x (List.mem_of_getElem? hxj)
      obtain ⟨i, rfl⟩ := Int.eq_ofNat_of_zero_le x0
      have d0 : wr.cell? ⟨b, off + j, none⟩ = some (.int .i64 (i : Int)) := (HBR.out.cell (p := ⟨b, off + j, none⟩) hbB).trans (hc j _ hxj)
      have E1 := Lib.hid (inP_snoc hxj)
      obtain ⟨k, hk⟩ : ∃ k, k = i / 8 := ⟨_, rfl⟩
      obtain ⟨s, hs⟩ : ∃ s, s = i % 8 := ⟨_, rfl⟩
      have hkq : k < q := by rw [hk, HQ.out]; omega
      have hs8 : s < 8 := by omega
      have E2 : Hid (i = k * 8 + s) := Lib.hid (by omega)
      obtain ⟨y, hy⟩ : ∃ y, y = byteP (inP (H.take j)) k := ⟨_, rfl⟩
      obtain ⟨z, hz⟩ : ∃ z, z = y ||| 2 ^ s := ⟨_, rfl⟩
      have c1 : wr.cell? ⟨w.heap.size, k, none⟩ = some (.int .u8 (y : Int)) := by rw [hy]; exact (HBK.out.cell k).trans (cellsP_get _ hkq)
      have f1 : wr.frozen? ⟨w.heap.size, k, none⟩ = false := HBK.out.frozen _
      have hgl := HBK.out.lt
      have hq1 : (i : Int) / 8 = (k : Int) := by omega
      have hq2 : (i : Int).tdiv 8 = (k : Int) := by rw [Int.tdiv_eq_ediv_of_nonneg (by omega)]; exact hq1
      have hkw : IntKind.i64.wrap (k : Int) = (k : Int) := by rw [IntKind.wrap_i64]; omega
      have hkI : (k : Int) < (q : Int) := by omega
      have hr1 : (i : Int) % 8 = (s : Int) := by omega
      have hr2 : (i : Int).tmod 8 = (s : Int) := by rw [Int.tmod_eq_emod_of_nonneg (by omega)]; exact hr1
      have HOR : Hid (bits .or .u8 (y : Int) (IntKind.u8.wrap (2 ^ s)) = (z : Int)) := Lib.hid (by
        have e : IntKind.u8.wrap (2 ^ s) = ((2 ^ s : Nat) : Int) := by
          have h1 := bit_lt s hs8
          rw [IntKind.wrap_u8', show (2 : Int) ^ s = ((2 ^ s : Nat) : Int) from (Int.natCast_pow 2 s).symm]
          obtain ⟨p, hp⟩ : ∃ p, p = 2 ^ s := ⟨_, rfl⟩
          rw [← hp] at h1 ⊢
          omega
        rw [e, hz]
        exact u8_or_nat y (2 ^ s) (by rw [hy]; exact byteP_lt _ _) (bit_lt _ hs8))
      have HPUT : Hid ((cellsP (inP (H.take j)) q).setIfInBounds k (.int .u8 (z : Int)) = cellsP (inP (H.take (j + 1))) q) := Lib.hid (by rw [E1.out, E2.out]; exact cellsP_put _ hs8 z (by rw [hz, hy]))
      have hjI : (j : Int) < (m : Int) := by omega
      subst hA
      clear hx hxj hc hjl hk hs hy hz x0 x1 E1
      go_upto_region 5 with fail
      go_still_tail 22, (by kernel_rfl)
      rw [HOR.out]
      change wpList _ _ _ _ _ wr.drew
      go_wp2_with fail
      go_roundw
      case rel =>
        refine ⟨j + 1, by omega, by go_num, ?_, ?_⟩
        · have h1 := HBK.out.put k (.int .u8 (z : Int))
          rw [HPUT.out] at h1
          exact h1.drew
        · exact HBR.out.drew.setCell (Nat.le_refl _) _
      case measure => simp [intOf]; omega
    · obtain rfl : j = m := by omega
      have htk : H.take j = H := List.take_of_length_le (by rw [HM.out]; exact Nat.le_refl _)
      rw [htk] at HBK
      obtain ⟨u, hu⟩ : ∃ u, u = wr := ⟨_, rfl⟩
      subst hu
      have HCV : Hid (∀ W, Below u.heap.size u W → (convert 81 9 (.slice (some ⟨w.heap.size, 0, none⟩) q q)).run Tryz.prog W = .ok (.string B) W) := Lib.hid (fun W hW => by
        have hb := HBK.out.below hW HBK.out.lt
        have := run_convert_bytes_back (P := Tryz.prog) W 81 9 5 ⟨w.heap.size, 0, none⟩ q (bytesP (inP H) q) Tryz.underlying81 Tryz.underlying5 Tryz.underlying9 (fun i hi => by
          rw [bytesP_length] at hi
          rw [Go.WideShapes.add_plain, Nat.zero_add]
          have e2 : ((bytesP (inP H) q)[i]'(by rw [bytesP_length]; exact hi)).toNat = byteP (inP H) i := by
            unfold bytesP
            rw [List.getElem_map, List.getElem_range, UInt8.toNat_ofNat', Nat.mod_eq_of_lt (byteP_lt _ _)]
          rw [e2]
          exact (hb.cell i).trans (cellsP_get _ hi))
        rw [bytesP_length] at this
        rw [HBB.out]
        exact this)
      have h0J : Below u.heap.size u u.drew := (Below.refl _ _).drew
      clear htk
      go_upto_region 6 with fail
      refine wp_region_grow (Below u.heap.size u) (by kernel_rfl) (by kernel_rfl) h0J ?_
      refine grow_call (fun w' hw => (HL1.out w').mono fun e w'' ⟨he, hb⟩ => ⟨he, hw.trans (hb.mono hw.size)⟩) (by simp [Region.wanted]) (fun w' hw => by go_simp) ?_
      simp only [Act.put, List.setIfInBounds_toArray, List.set_cons_succ, List.set_cons_zero]
      apply grow_step
      · intro w' hw K hK
        go_simp
        exact hK
      · exact ⟨_, rfl, Nat.le_of_ble_eq_true rfl⟩
      · exact ⟨_, h0J⟩
      apply grow_step
      · intro w' hw K hK
        go_simp
        exact hK
      · exact ⟨_, rfl, Nat.le_of_ble_eq_true rfl⟩
      · exact ⟨_, h0J⟩
      refine grow_call (fun w' hw => (HLN.out w').mono fun e w'' ⟨he, hb⟩ => ⟨he, hw.trans (hb.mono hw.size)⟩) (by simp [Region.wanted]) (fun w' hw => by go_simp) ?_
      simp only [Act.put, List.setIfInBounds_toArray, List.set_cons_succ, List.set_cons_zero]
      apply grow_step
      · intro w' hw K hK
        go_simp
        exact hK
      · exact ⟨_, rfl, Nat.le_of_ble_eq_true rfl⟩
      · exact ⟨_, h0J⟩
      apply grow_step
      · intro w' hw K hK
        go_simp
        exact hK
      · exact ⟨_, rfl, Nat.le_of_ble_eq_true rfl⟩
      · exact ⟨_, h0J⟩
      apply grow_step
      · intro w' hw K hK
        have hcv := HCV.out w' hw
        go_simp
        exact hK
      · exact ⟨_, rfl, Nat.le_of_ble_eq_true rfl⟩
      · exact ⟨_, h0J⟩
      apply grow_step
      · intro w' hw K hK
        go_simp
        exact hK
      · exact ⟨_, rfl, Nat.le_of_ble_eq_true rfl⟩
      · exact ⟨_, h0J⟩
      refine grow_call (fun w' hw => (HSE.out w').mono fun e w'' ⟨he, hb⟩ => ⟨he, hw.trans (hb.mono hw.size)⟩) (by simp [Region.wanted]) (fun w' hw => by go_simp) ?_
      simp only [Act.put, List.setIfInBounds_toArray, List.set_cons_succ, List.set_cons_zero]
      apply grow_step
      · intro w' hw K hK
        go_simp
        exact hK
      · exact ⟨_, rfl, Nat.le_of_ble_eq_true rfl⟩
      · exact ⟨_, h0J⟩
      apply grow_step
      · intro w' hw K hK
        go_simp
        exact hK
      · exact ⟨_, rfl, Nat.le_of_ble_eq_true rfl⟩
      · exact ⟨_, h0J⟩
      apply grow_step
      · intro w' hw K hK
        go_simp
        exact hK
      · exact ⟨_, rfl, Nat.le_of_ble_eq_true rfl⟩
      · exact ⟨_, h0J⟩
      apply grow_step
      · intro w' hw K hK
        go_simp
        exact hK
      · exact ⟨_, rfl, Nat.le_of_ble_eq_true rfl⟩
      · exact ⟨_, h0J⟩
      apply grow_step
      · intro w' hw K hK
        go_simp
        exact hK
      · exact ⟨_, rfl, Nat.le_of_ble_eq_true rfl⟩
      · exact ⟨_, h0J⟩
      refine grow_nil ?_
      intro w5 hw5
      have HB5 := Lib.hid (HBR.out.trans (hw5.mono HBR.out.size))
      clear hw5 h0J
      go_wp2_with fail
      go_ret
      exact ⟨rfl, HB5.out⟩
end Go.Proofs.YtiagofgcinlnhaaGreatDoor
