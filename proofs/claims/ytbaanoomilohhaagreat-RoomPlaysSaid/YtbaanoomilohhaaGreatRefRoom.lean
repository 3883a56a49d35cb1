/-
  The document's own LayRoom and ReadRoom. No statement is proved here.
-/
import Derived.Test.YtbaanoomilohhaaGreatBytes
import Derived.Test.YtbaanoomilohhaaGreatOutPure
import Derived.Deep.AppendLies
import Derived.Lib.Bytes
import Derived.Test.YtbaanoomilohhaaGreatCrcSeal
import Derived.Test.YtbaanoomilohhaaGreatCrcOpen
import Derived.Test.YtbaanoomilohhaaGreatIn
import Derived.Test.YtbaanoomilohhaaGreatRoomRead
import Derived.OwnWalk
import Derived.Test.YtbaanoomilohhaaGreatGrow
namespace Go.Proofs.YtbaanoomilohhaaGreat
open Go.RowKit

theorem low_cell (l : List UInt8) (m : Nat) : Lib.byteCells l ++ [Value.int .u8 ((m : Int) % 256)] = Lib.byteCells (l ++ lowBytes 1 m) := by
  simp [Lib.byteCells, lowBytes, Nat.toUInt8]
theorem lowBytes_more (j m : Nat) : lowBytes j m ++ lowBytes 1 (m / 256 ^ j) = lowBytes (j + 1) m := by
  rw [lowBytes_snoc j m]
  rfl
theorem low_div (j m : Nat) : m / 256 ^ (j + 1) = m / 256 ^ j / 256 := by rw [Nat.pow_succ, Nat.div_div_eq_div_mul]

set_option maxRecDepth 100000 in
set_option maxHeartbeats 2000000 in
theorem ref_lowbytes (m k : Nat) (w : World) (hm : m < 18446744073709551616) (hk0 : 0 < k) (hk : k ≤ 8) :
    Calls Tryz.prog 39 #[.int .u64 m, .int .i64 k] w fun e w' => e = .returned (.string ⟨(lowBytes k m).toArray⟩) ∧ Below w.heap.size w w' := by
  obtain ⟨i0, hi, hz0, hz1, hz2⟩ := info_parts byte_info
  go_enter Tryz.func39, Tryz.ntmps39
  go_wp2_with fail
  go_loopw [0, 5, 6] (fun x v i wr => ∃ j : Nat, j ≤ k ∧ i = .int .i64 j ∧ x = .int .u64 ((m / 256 ^ j : Nat) : Int) ∧ wr.ownsRow w.heap.size 5 1 v j (Lib.byteCells (lowBytes j m)) ∧ Below w.heap.size w wr) (fun _ _ i _ => k - (intOf i).toNat)
  case atStart => exact ⟨0, Nat.zero_le _, rfl, by simp, World.ownsRow_nil _ _ _ _, Below.refl _ _⟩
  case round =>
    obtain ⟨j, hj, rfl, rfl, hown, hbr⟩ := hrel
    by_cases hlt : j < k
    · have HJ := Lib.hid (low_div j m)
      have HL := Lib.hid (lowBytes_more j m)
      have HLL := Lib.hid (show (Lib.byteCells (lowBytes j m)).length = j by rw [Lib.byteCells_length, lowBytes_length])
      obtain ⟨M, hM⟩ : ∃ M, M = m / 256 ^ j := ⟨_, rfl⟩
      have hMl : M < 18446744073709551616 := by rw [hM]; exact Nat.lt_of_le_of_lt (Nat.div_le_self _ _) hm
      rw [← hM]
      have HM := Lib.hid hM
      clear hM hm
      have HOWN := Lib.hid hown
      clear hown
      go_wp2_with (at_builtin; refine wpList_append_lies _ rfl (.tmp 12) (.tmp 15) 74 rfl w.heap.size 5 i0 (.int .u8 0) 1 1 Tryz.underlying74 hi hz0 hz1 hz2 rfl (by omega) _ j _ rfl (HOWN.out.alloc _) ⟨wr.heap.size, 0, none⟩ 1 1 [.int .u8 ((M : Int) % 256)] rfl rfl ?c1 ?c2 (by omega) (by unfold maxLen; omega) (by omega) (by have := hbr.size; simp; omega) _ rfl ?_)
      case c1 =>
        intro a u ha
        match a, ha with
        | 0, ha => simp at ha; subst ha; simp [Addr.add]
      case c2 => intro u hu; simp at hu; subst hu; rfl
      intro g cap w1 hown1 hg1 hor hlt1
      have hb1 : Below w.heap.size w w1 := (hbr.alloc hbr.size _).grown hg1 (by have := hbr.size; simp; omega) (fun k hk => (HOWN.out.lt k hk).1)
      have HB1 := Lib.hid hb1
      rw [low_cell] at hown1
      have HOW := Lib.hid hown1
      clear hown1 hg1 hor hb1 hbr
      go_wp2
      go_roundw
      case rel => exact ⟨j + 1, by omega, by go_num, by rw [HJ.out, ← HM.out]; simp, by have h := HOW.out; rw [HM.out, HL.out] at h; exact h, HB1.out⟩
      case measure => simp [intOf]; omega
    · obtain rfl : j = k := by omega
      obtain ⟨g, cap, rfl, hg0, hlt1⟩ := hown.form hk0
      have hcv := run_convert_bytes_back (P := Tryz.prog) wr 74 9 5 ⟨g, 0, none⟩ cap (lowBytes j m) Tryz.underlying74 Tryz.underlying5 Tryz.underlying9
        (fun i hi => hown.cells (g := g) rfl i _ (by simp [Lib.byteCells, List.getElem?_eq_getElem hi]))
      rw [lowBytes_length] at hcv
      clear hown
      go_wp2
      go_ret
      exact ⟨rfl, hbr⟩
theorem ref_low4 (m : Nat) (w : World) (hm : m < 4294967296) :
    Calls Tryz.prog 39 #[.int .u64 m, .int .i64 4] w fun e w' => e = .returned (.string ⟨(lowBytes 4 m).toArray⟩) ∧ Below w.heap.size w w' :=
  ref_lowbytes m 4 w (by omega) (by omega) (by omega)
end Go.Proofs.YtbaanoomilohhaaGreat

namespace Go.Proofs.YtbaanoomilohhaaGreat
open Go.RowKit

theorem not_xor (x : Nat) (h : x < 4294967296) : bits .xor .u32 IntKind.u32.max (x : Int) = ((x ^^^ 4294967295 : Nat) : Int) := by
  show bits .xor .u32 ((4294967295 : Nat) : Int) (x : Int) = _
  rw [u32_xor_nat 4294967295 x (by omega) h, Nat.xor_comm]

set_option maxHeartbeats 1000000 in
theorem ref_crc (x : ByteArray) (w : World) (hx : x.size ≤ 140737488351232) :
    Calls Tryz.prog 41 #[.string x] w fun e w' => e = .returned (.int .u32 (crc x.data.toList)) ∧ w = w' := by
  go_enter Tryz.func41, Tryz.ntmps41
  go_wp2
  go_loop [3, 4] (fun v i => ∃ k : Nat, k ≤ x.size ∧ i = .int .i64 k ∧ v = .int .u32 (crcFold 4294967295 (x.data.toList.take k))) (fun _ i => x.size - (intOf i).toNat)
  case atStart => exact ⟨0, Nat.zero_le _, rfl, rfl⟩
  case round =>
    obtain ⟨k, hk, rfl, rfl⟩ := hrel
    have ht := crcFold_lt (x.data.toList.take k) (x := 4294967295) (by omega)
    by_cases hkx : k < x.size
    · have hf := fold_next 4294967295 hkx
      obtain ⟨t, ht0⟩ : ∃ t, t = crcFold 4294967295 (x.data.toList.take k) := ⟨_, rfl⟩
      rw [← ht0] at ht hf ⊢
      have HF := Lib.hid hf
      have hb := byte_cast t x[k] ht
      have hl := byte_xor_lt x[k] ht
      obtain ⟨y, hy⟩ : ∃ y, y = t ^^^ x[k].toNat := ⟨_, rfl⟩
      rw [← hy] at hb hl
      have HY := Lib.hid hy
      clear ht0 hf hy
      go_wp2_with fail
      clear hb
      go_loop [3, 5] (fun v i => ∃ j : Nat, j ≤ 8 ∧ i = .int .i64 j ∧ v = .int .u32 (shifts j y)) (fun _ i => 8 - (intOf i).toNat)
      case atStart => exact ⟨0, Nat.zero_le _, rfl, rfl⟩
      case round =>
        obtain ⟨j, hj, rfl, rfl⟩ := hrel
        by_cases hlt : j < 8
        · have hz := shifts_lt j hl
          have hs : shifts (j + 1) y = shift1 (shifts j y) := rfl
          have HS := Lib.hid hs
          clear hs
          generalize shifts j y = z at *
          by_cases ho : z % 2 = 1
          · have e1 : ((z : Int) % 2 == 1) = true := by rw [beq_iff_eq]; omega
            have HO := Lib.hid (shift1_odd ho)
            clear ho
            go_wp2
            go_round
            case rel => exact ⟨j + 1, by omega, by go_num, by rw [HS.out, HO.out, half_cast, poly_cast z hz]⟩
            case measure => simp [intOf]; omega
          · have e1 : ((z : Int) % 2 == 1) = false := by rw [beq_eq_false_iff_ne]; omega
            have HO := Lib.hid (shift1_even ho)
            clear ho
            go_wp2
            go_round
            case rel => exact ⟨j + 1, by omega, by go_num, by rw [HS.out, HO.out, half_cast]⟩
            case measure => simp [intOf]; omega
        · obtain rfl : j = 8 := by omega
          go_wp2
          go_round
          case rel => exact ⟨k + 1, by omega, by go_num, by rw [HF.out, crcByte_shifts, HY.out]⟩
          case measure => simp [intOf]; omega
    · have hk2 : x.data.toList.take k = x.data.toList := List.take_of_length_le (by rw [Array.length_toList]; show x.size ≤ k; omega)
      rw [hk2] at ht ⊢
      clear hk2
      go_wp2
      go_ret
      exact ⟨ret_u32 (not_xor _ ht), rfl⟩
end Go.Proofs.YtbaanoomilohhaaGreat

namespace Go.Proofs.YtbaanoomilohhaaGreat
open Go.RowKit

theorem append_list (s t : ByteArray) : (s ++ t).data.toList = s.data.toList ++ t.data.toList := by
  rw [ByteArray.data_append, Array.toList_append]
theorem append_zeros (s : ByteArray) (N : Nat) : (s ++ zeroB N).data.toList = s.data.toList ++ List.replicate N 0 := by
  rw [append_list, zeroB_list]
theorem append_mk (s : ByteArray) (l : List UInt8) : s ++ ⟨l.toArray⟩ = ⟨(s.data.toList ++ l).toArray⟩ := by
  apply ByteArray.ext
  apply Array.toList_inj.1
  rw [append_list]

set_option maxRecDepth 100000 in
set_option maxHeartbeats 1000000 in
theorem ref_seal (n : Int) (s : ByteArray) (w : World) (hs : s.size ≤ 1000000) :
    Calls Tryz.prog 23 #[.int .i64 n, .string s] w fun e w' => e = .returned (sealV n s.data.toList) ∧ Below w.heap.size w w' := by
  by_cases ha : n < 4 ∨ 65536 < n
  · have E : sealV n s.data.toList = .tuple #[.string .empty, .int .i64 1] := by unfold sealV; rw [sealB_arg ha]; rfl
    rw [E]
    clear E
    by_cases h1 : n < 4
    · go_enter Tryz.func23, Tryz.ntmps23
      go_wp2_with fail
      go_ret2
      exact ⟨rfl, Below.refl _ _⟩
    · have h2 : 65536 < n := by omega
      clear ha
      go_enter Tryz.func23, Tryz.ntmps23
      go_wp2_with fail
      go_ret2
      exact ⟨rfl, Below.refl _ _⟩
  · have h0 : 4 ≤ n := by omega
    have h1 : n ≤ 65536 := by omega
    clear ha
    by_cases hbig : n - 4 < (s.size : Int)
    · have E : sealV n s.data.toList = .tuple #[.string .empty, .int .i64 2] := by unfold sealV; rw [sealB_long h0 h1 (by rw [← Lib.size_eq]; exact hbig)]; rfl
      rw [E]
      clear E
      go_enter Tryz.func23, Tryz.ntmps23
      go_wp2_with fail
      go_ret2
      exact ⟨rfl, Below.refl _ _⟩
    · have hsm : (s.size : Int) ≤ n - 4 := by omega
      clear hbig
      obtain ⟨N, hN⟩ : ∃ N : Nat, (N : Int) = n - 4 - s.size := ⟨(n - 4 - s.size).toNat, by omega⟩
      have hNb : N ≤ 65532 := by omega
      have eb : body n s.data.toList = (s ++ zeroB N).data.toList := by
        rw [append_zeros]
        unfold body
        rw [← Lib.size_eq]
        congr 2
        omega
      have E : sealV n s.data.toList = .tuple #[.string ((s ++ zeroB N) ++ ⟨(lowBytes 4 (crc (s ++ zeroB N).data.toList)).toArray⟩), .int .i64 0] := by
        unfold sealV
        rw [sealB_ok h0 h1 (by rw [← Lib.size_eq]; exact hsm), eb, append_mk (s ++ zeroB N)]
      rw [E]
      have hz : (s ++ zeroB N).size ≤ 140737488351232 := by rw [ByteArray.size_append, zeroB_size]; omega
      have HN := Lib.hid hN
      have HZ := Lib.hid hz
      clear E eb hN hz
      go_enter Tryz.func23, Tryz.ntmps23
      go_wp2_with fail
      rw [← HN.out]
      refine (ref_zeros N _ (by omega)).mono ?_
      rintro e w1 ⟨rfl, hb1⟩
      have hcl := crc_lt (s ++ zeroB N).data.toList
      have hsz : s.size + (zeroB N).size ≤ 9223372036854775807 := by rw [zeroB_size]; omega
      have hsz2 : (s ++ zeroB N).size + 4 ≤ 9223372036854775807 := by have := HZ.out; omega
      obtain ⟨Z, hZE⟩ : ∃ Z, Z = zeroB N := ⟨_, rfl⟩
      rw [← hZE] at HZ hcl hsz hsz2 ⊢
      have HZE := Lib.hid hZE
      obtain ⟨C, hC⟩ : ∃ C, C = crc (s ++ Z).data.toList := ⟨_, rfl⟩
      have hrc := fun w => ref_crc (s ++ Z) w HZ.out
      simp only [← hC] at hrc hcl
      have HRC := Lib.hid hrc
      have HC := Lib.hid hC
      clear hC hrc hZE
      go_wp2_with fail
      refine (HRC.out _).mono ?_
      rintro e w2 ⟨rfl, rfl⟩
      go_wp2_with fail
      obtain ⟨V, hV⟩ : ∃ V : ByteArray, V = ⟨(lowBytes 4 C).toArray⟩ := ⟨_, rfl⟩
      have hVs : V.size ≤ 4 := by rw [hV, Lib.size_eq]; show (lowBytes 4 C).length ≤ 4; rw [lowBytes_length]; exact Nat.le_refl _
      have hsz3 : (s ++ Z).size + V.size ≤ 9223372036854775807 := by omega
      have hsz4 : s.size + Z.size + V.size ≤ 9223372036854775807 := by rw [ByteArray.size_append] at hsz3; exact hsz3
      have hrl := fun w => ref_low4 C w hcl
      simp only [← hV] at hrl
      have HRL := Lib.hid hrl
      have HV := Lib.hid hV
      clear hV hrl
      refine (HRL.out _).mono ?_
      rintro e w3 ⟨rfl, hb3⟩
      go_wp2_with fail
      go_ret2
      exact ⟨by rw [HV.out, HC.out, HZE.out]; rfl, hb1.trans (hb3.mono hb1.size)⟩

theorem open_eq {b H T : ByteArray} {k : Nat} (hk : b.size = k + 4) (hT : T = b.extract k b.size) (hH : H = b.extract 0 k) (c : Nat) (hc : c < 4294967296) :
    (H ++ ⟨(lowBytes 4 c).toArray⟩ = b) ↔ low T.data.toList = c := by
  have hl : b.data.toList.length = k + 4 := by rw [← Lib.size_eq]; exact hk
  have eT : T.data.toList = b.data.toList.drop k := by
    rw [hT, ByteArray.data_extract, Array.toList_extract, List.extract_eq_take_drop, List.take_of_length_le (by rw [List.length_drop, hl, hk]; exact Nat.le_refl _)]
  have eH : H.data.toList = b.data.toList.take k := by
    rw [hH, ByteArray.data_extract, Array.toList_extract, List.extract_eq_take_drop, List.drop_zero, Nat.sub_zero]
  have hTl : T.data.toList.length = 4 := by rw [eT, List.length_drop, hl]; omega
  rw [append_mk, eH]
  constructor
  · intro h
    have h2 := congrArg (fun x : ByteArray => x.data.toList.drop k) h
    simp only [List.drop_left' (show (b.data.toList.take k).length = k by rw [List.length_take, hl]; omega)] at h2
    rw [eT, ← h2, low_four hc]
  · intro h
    have h2 := lowBytes_low T.data.toList
    rw [hTl, h, eT] at h2
    rw [h2, List.take_append_drop]

set_option maxRecDepth 100000 in
set_option maxHeartbeats 1000000 in
theorem ref_open (b : ByteArray) (w : World) (hb : b.size ≤ 140737488351232) :
    Calls Tryz.prog 42 #[.string b] w fun e w' => e = .returned (openV b.data.toList) ∧ Below w.heap.size w w' := by
  by_cases h4 : b.size < 4
  · have E : openV b.data.toList = .tuple #[.string .empty, .int .i64 5] := by unfold openV openB; rw [if_pos (by rw [← Lib.size_eq]; exact h4)]; rfl
    rw [E]
    clear E
    go_enter Tryz.func42, Tryz.ntmps42
    go_wp2_with fail
    go_ret2
    exact ⟨rfl, Below.refl _ _⟩
  · have hk : b.size = b.size - 4 + 4 := by omega
    have hk1 : 4 ≤ b.size := by omega
    have hV := openV_of hk rfl rfl
    have hE := fun c hc => open_eq hk (T := b.extract (b.size - 4) b.size) (H := b.extract 0 (b.size - 4)) rfl rfl c hc
    have hH : (b.extract 0 (b.size - 4)).size ≤ 140737488351232 := by simp; omega
    have hcl := crc_lt (b.extract 0 (b.size - 4)).data.toList
    have hrc := fun w => ref_crc (b.extract 0 (b.size - 4)) w hH
    obtain ⟨H, hHH⟩ : ∃ H, H = b.extract 0 (b.size - 4) := ⟨_, rfl⟩
    obtain ⟨T, hT⟩ : ∃ T, T = b.extract (b.size - 4) b.size := ⟨_, rfl⟩
    obtain ⟨C, hC⟩ : ∃ C, C = crc H.data.toList := ⟨_, rfl⟩
    simp only [← hHH, ← hT, ← hC] at hrc hcl hH hE hV
    obtain ⟨V, hVV⟩ : ∃ V : ByteArray, V = ⟨(lowBytes 4 C).toArray⟩ := ⟨_, rfl⟩
    have hVs : V.size ≤ 4 := by rw [hVV, Lib.size_eq]; show (lowBytes 4 C).length ≤ 4; rw [lowBytes_length]; exact Nat.le_refl _
    have hrl := fun w => ref_low4 C w hcl
    have hE' := hE C hcl
    simp only [← hVV] at hrl hE'
    have hsz : H.size + V.size ≤ 9223372036854775807 := by omega
    have HV := Lib.hid hV
    have HE := Lib.hid hE'
    have HRC := Lib.hid hrc
    have HRL := Lib.hid hrl
    have HHH := Lib.hid hHH
    clear hk hC hrc h4 hV hE hE' hrl hVV hHH hT
    go_enter Tryz.func42, Tryz.ntmps42
    go_wp2_with fail
    rw [← HHH.out]
    refine (HRC.out _).mono ?_
    rintro e w2 ⟨rfl, rfl⟩
    go_wp2_with fail
    refine (HRL.out _).mono ?_
    rintro e w3 ⟨rfl, hb3⟩
    by_cases he : low T.data.toList = C
    · have hq : H ++ V = b := HE.out.2 he
      have HQ := Lib.hid he
      clear he
      go_wp2_with fail
      go_ret2
      exact ⟨by rw [HV.out, if_pos HQ.out]; rfl, hb3⟩
    · have hq : ((H ++ V).toList == b.toList) = false := by
        rw [beq_eq_false_iff_ne, Lib.toList_data, Lib.toList_data]
        exact fun h => he (HE.out.1 (ByteArray.ext (Array.toList_inj.1 h)))
      have HQ := Lib.hid he
      clear he
      go_wp2_with fail
      go_ret2
      exact ⟨by rw [HV.out, if_neg HQ.out]; rfl, hb3⟩
end Go.Proofs.YtbaanoomilohhaaGreat

namespace Go.Proofs.YtbaanoomilohhaaGreat
open Go.RowKit

theorem low_drop {x : ByteArray} {j : Nat} (hj : j < x.size) : low (x.data.toList.drop j) = (x[j]).toNat + 256 * low (x.data.toList.drop (j + 1)) := by
  have hl : j < x.data.toList.length := by rw [Array.length_toList]; exact hj
  rw [List.drop_eq_getElem_cons hl, low]
  rfl

theorem low_up (x : UInt8) (V : Nat) (hv : V < 72057594037927936) : IntKind.u64.wrap ((V : Int) * 256 + IntKind.u64.wrap (x.toNat : Int)) = ((x.toNat + 256 * V : Nat) : Int) := by
  have h := x.toNat_lt
  rw [IntWalk.u64_in (x.toNat : Int) (by omega), IntWalk.u64_in _ (by omega)]
  omega

set_option maxHeartbeats 800000 in
/-- The number of bytes, from the highest on. -/
theorem ref_low (x : ByteArray) (w : World) (hx : x.size ≤ 8) :
    Calls Tryz.prog 43 #[.string x] w fun e w' => e = .returned (.int .u64 (low x.data.toList)) ∧ w = w' := by
  go_enter Tryz.func43, Tryz.ntmps43
  go_wp2_with fail
  go_loop [3, 4] (fun v i => ∃ j : Nat, j ≤ x.size ∧ i = .int .i64 ((j : Int) - 1) ∧ v = .int .u64 (low (x.data.toList.drop j))) (fun _ i => (intOf i + 1).toNat)
  case atStart => exact ⟨x.size, Nat.le_refl _, rfl, by rw [List.drop_of_length_le (by rw [Array.length_toList]; exact Nat.le_refl _)]; rfl⟩
  case round =>
    obtain ⟨j, hj, rfl, rfl⟩ := hrel
    by_cases hlt : 0 < j
    · obtain ⟨k, rfl⟩ : ∃ k, j = k + 1 := ⟨j - 1, by omega⟩
      have hv : low (x.data.toList.drop (k + 1)) < 72057594037927936 := by
        refine Nat.lt_of_lt_of_le (low_lt _) (Nat.le_trans (Nat.pow_le_pow_right (by omega) (show _ ≤ 7 from ?_)) (by decide))
        rw [List.length_drop, Array.length_toList]
        show x.size - (k + 1) ≤ 7
        omega
      have hd := low_drop (x := x) (j := k) (by omega)
      generalize low (x.data.toList.drop (k + 1)) = V at *
      have HD := Lib.hid hd
      clear hd
      go_wp2_with fail
      go_round
      case rel => exact ⟨k, by omega, rfl, by rw [HD.out, low_up x[k] V hv]⟩
      case measure => simp [intOf] <;> omega
    · obtain rfl : j = 0 := by omega
      go_wp2_with fail
      go_ret
      exact ⟨rfl, rfl⟩

theorem raw_low (s : Rd) (k : Nat) (hk : k ≤ 8) : (s.raw k).1.size ≤ 8 := by
  unfold Rd.raw Rd.take
  split
  · simp
  · split
    · simp
    · split
      · simp
      · simp <;> omega
/-- What the reference's number is made of. -/
theorem num_raw (s : Rd) (k : Nat) : s.num k = if 9223372036854775807 < (low (s.raw k).1.data.toList : Int) then (0, ⟨.empty, 6⟩) else ((low (s.raw k).1.data.toList : Int), (s.raw k).2) := by
  unfold Rd.num Rd.raw
  by_cases h : (s.take k).2.1 = true
  · rw [if_pos h]
  · rw [if_neg h]
    have e : (s.take k).1 = .empty := by
      unfold Rd.take at h ⊢
      split
      · rfl
      · rename_i h0
        rw [if_neg h0] at h
        split
        · rfl
        · rename_i h1
          rw [if_neg h1] at h
          split
          · rfl
          · rename_i h2
            rw [if_neg h2] at h
            simp at h
    rw [e]
    simp [low]

end Go.Proofs.YtbaanoomilohhaaGreat

namespace Go.Proofs.YtbaanoomilohhaaGreat
open Go.RowKit

theorem bytesP_false (m : Nat) : bytesP (fun _ => false) m = List.replicate m 0 := by
  apply List.ext_getElem?
  intro k
  unfold bytesP
  rw [List.getElem?_map, List.getElem?_replicate]
  rcases Nat.lt_or_ge k m with h | h
  · rw [List.getElem?_range h, if_pos h]
    rfl
  · rw [List.getElem?_eq_none (by simpa using h), if_neg (by omega)]
    rfl
def cellsP (P : Nat → Bool) (m : Nat) : Array Value := (Lib.byteCells (bytesP P m)).toArray
theorem cellsP_size (P : Nat → Bool) (m : Nat) : (cellsP P m).size = m := by simp [cellsP, Lib.byteCells_length, bytesP_length]
theorem cellsP_get (P : Nat → Bool) {m k : Nat} (hk : k < m) : (cellsP P m)[k]? = some (.int .u8 (byteP P k : Int)) := by
  unfold cellsP Lib.byteCells
  rw [List.getElem?_toArray, List.getElem?_map]
  unfold bytesP
  rw [List.getElem?_map, List.getElem?_range hk]
  simp only [Option.map_some]
  rw [UInt8.toNat_ofNat', Nat.mod_eq_of_lt (byteP_lt _ _)]
theorem cellsP_put (P : Nat → Bool) {m k j : Nat} (hj : j < 8) (b : Nat) (hb : b = byteP P k ||| 2 ^ j) : (cellsP P m).setIfInBounds k (.int .u8 (b : Int)) = cellsP (updP P (k * 8 + j) true) m := by
  apply Array.ext_getElem?
  intro t
  rcases Nat.lt_or_ge t m with ht | ht
  · rw [cellsP_get _ ht]
    by_cases e : k = t
    · subst e
      rw [Array.getElem?_setIfInBounds_self, if_pos (by rw [cellsP_size]; exact ht), hb, byteP_set _ _ _ hj]
    · rw [Array.getElem?_setIfInBounds_ne e, cellsP_get _ ht, updP_off (by omega)]
  · rw [Array.getElem?_eq_none (by rw [Array.size_setIfInBounds, cellsP_size]; exact ht), Array.getElem?_eq_none (by rw [cellsP_size]; exact ht)]
theorem inP_snoc {H : List Int} {j i : Nat} (h : H[j]? = some (i : Int)) : inP (H.take (j + 1)) = updP (inP (H.take j)) i true := by
  funext t
  unfold inP updP
  rw [List.take_add_one, h]
  by_cases e : t = i
  · rw [if_pos e, e]
    exact decide_eq_true (by simp)
  · rw [if_neg e]
    refine decide_eq_decide.2 ?_
    simp only [Option.toList_some, List.mem_append, List.mem_singleton]
    exact ⟨fun h => h.resolve_right (by omega), .inl⟩

set_option maxRecDepth 100000 in
set_option maxHeartbeats 8000000 in
theorem rlayroom_any (n : Nat) (A : Option Addr) (m c : Nat) (H : List Int) (w : World) (hn : n ≤ 1900) (ho : HOk n H) (hm : H.length = m) (hx : Ints w w.heap.size A H) :
    Calls Tryz.prog 22 #[.int .i64 (n : Int), .slice A m c] w fun e w' => e = .returned (.string (bs (roomT n H))) ∧ Below w.heap.size w w' := by
  obtain ⟨q, hq⟩ : ∃ q, q = (n + 7) / 8 := ⟨_, rfl⟩
  have hq238 : q ≤ 238 := by omega
  have hmn : m ≤ n := by rw [← hm]; exact ho.few
  obtain ⟨L1, hL1⟩ : ∃ L, L = bs (lowBytes 1 6) := ⟨_, rfl⟩
  obtain ⟨LN, hLN⟩ : ∃ L, L = bs (lowBytes 2 n) := ⟨_, rfl⟩
  obtain ⟨B, hB⟩ : ∃ B, B = bs (bytesP (inP H) q) := ⟨_, rfl⟩
  have z1 : L1.size = 1 := by rw [hL1, bs_size, lowBytes_length]
  have zN : LN.size = 2 := by rw [hLN, bs_size, lowBytes_length]
  have zB : B.size = q := by rw [hB, bs_size, bytesP_length]
  obtain ⟨T, hT⟩ : ∃ T, T = bs (roomT n H) := ⟨_, rfl⟩
  have HL1 : Hid (∀ W, Calls Tryz.prog 39 #[.int .u64 6, .int .i64 1] W fun e w' => e = .returned (.string L1) ∧ Below W.heap.size W w') := Lib.hid (fun W => by rw [hL1]; exact ref_lowbytes 6 1 W (by omega) (by omega) (by omega))
  have HLN : Hid (∀ W, Calls Tryz.prog 39 #[.int .u64 (n : Int), .int .i64 2] W fun e w' => e = .returned (.string LN) ∧ Below W.heap.size W w') := Lib.hid (fun W => by rw [hLN]; exact ref_lowbytes n 2 W (by omega) (by omega) (by omega))
  have HSE : Hid (∀ W, Calls Tryz.prog 23 #[.int .i64 256, .string (L1 ++ LN ++ B)] W fun e w' => e = .returned (.tuple #[.string T, .int .i64 0]) ∧ Below W.heap.size W w') := Lib.hid (fun W => by
    have := ref_seal 256 (L1 ++ LN ++ B) W (by simp only [ByteArray.size_append]; omega)
    have e : (L1 ++ LN ++ B).data.toList = lowBytes 1 6 ++ lowBytes 2 n ++ bytesP (inP H) ((n + 7) / 8) := by
      rw [append_list, append_list, hL1, hLN, hB, bs_list, bs_list, bs_list, hq]
    rw [e] at this
    unfold sealV at this
    rw [room_doc ho hn] at this
    rw [hT]
    exact this)
  have hwn : IntKind.u64.wrap (n : Int) = (n : Int) := IntWalk.u64_in _ (by omega)
  have hs1 : L1.size + LN.size ≤ 9223372036854775807 := by omega
  have hs2 : (L1 ++ LN).size + B.size ≤ 9223372036854775807 := by simp only [ByteArray.size_append]; omega
  have hs9 : ¬ 9223372036854775807 < 3 + q := by omega
  have hs3 : L1.size + LN.size + B.size ≤ 9223372036854775807 := by omega
  have HX := Lib.hid hx
  have HM := Lib.hid hm
  have HO := Lib.hid ho
  have HBB := Lib.hid hB
  have hd1 : ((n : Int) + 7) / 8 = (q : Int) := by omega
  have hd2 : ((n : Int) + 7).tdiv 8 = (q : Int) := by rw [Int.tdiv_eq_ediv_of_nonneg (by omega)]; exact hd1
  have hqw : IntKind.i64.wrap (q : Int) = (q : Int) := by rw [IntKind.wrap_i64]; omega
  rw [← hT]
  have HQ := Lib.hid hq
  clear hx hm ho hL1 hLN hB hT hq
  have hmk : (Instr.makeSlice 74 (.int .i64 (q : Int)) (.int .i64 (q : Int))).run Tryz.prog w = .ok (.slice (some ⟨w.heap.size, 0, none⟩) q q) (w.alloc (.cells (cellsP (inP []) q) 5)) := by
    have hr := zeros_make w q (by omega)
    have e : cellsP (inP []) q = (Lib.byteCells (zeroB q).data.toList).toArray := by
      unfold cellsP
      rw [show inP [] = fun _ => false from funext fun t => by simp [inP], bytesP_false, zeroB_list]
    rw [e]
    exact hr
  go_enter Tryz.func22, Tryz.ntmps22
  go_wp2_with fail
  go_loopw [6] (fun i wr => ∃ (j : Nat), j ≤ m ∧ i = .int .i64 j ∧ Blk wr w.heap.size 5 (cellsP (inP (H.take j)) q) ∧ Below w.heap.size w wr) (fun i _ => m - (intOf i).toNat)
  case atStart => exact ⟨0, Nat.zero_le _, rfl, Blk.new _ _ _, (Below.refl _ _).alloc (Nat.le_refl _) _⟩
  case round =>
    obtain ⟨j, hj, rfl, hbk, hbr⟩ := hrel
    have HBK := Lib.hid hbk
    have HBR := Lib.hid hbr
    clear hbk hbr
    by_cases hlt : j < m
    · have hjl : j < H.length := by rw [HM.out]; exact hlt
      obtain ⟨b, off, hA, hbB, hc⟩ := HX.out (by omega)
      obtain ⟨x, hx⟩ : ∃ x, x = H[j] := ⟨_, rfl⟩
      have hxj : H[j]? = some x := by rw [hx]; exact List.getElem?_eq_getElem hjl
      obtain ⟨x0, x1⟩ := HO.out.range x (List.mem_of_getElem? hxj)
      obtain ⟨i, rfl⟩ := Int.eq_ofNat_of_zero_le x0
      have d0 : wr.cell? ⟨b, off + j, none⟩ = some (.int .i64 (i : Int)) := (HBR.out.cell (p := ⟨b, off + j, none⟩) hbB).trans (hc j _ hxj)
      have E1 := Lib.hid (inP_snoc hxj)
      obtain ⟨k, hk⟩ : ∃ k, k = i / 8 := ⟨_, rfl⟩
      obtain ⟨s, hs⟩ : ∃ s, s = i % 8 := ⟨_, rfl⟩
      have hkq : k < q := by rw [hk, HQ.out]; omega
      have hs8 : s < 8 := by omega
      have E2 : Hid (i = k * 8 + s) := Lib.hid (by omega)
      obtain ⟨y, hy⟩ : ∃ y, y = byteP (inP (H.take j)) k := ⟨_, rfl⟩
      obtain ⟨z, hz⟩ : ∃ z, z = y ||| 2 ^ s := ⟨_, rfl⟩
      have c1 : wr.cell? ⟨w.heap.size, k, none⟩ = some (.int .u8 (y : Int)) := by rw [hy]; exact (HBK.out.cell k).trans (cellsP_get _ hkq)
      have f1 : wr.frozen? ⟨w.heap.size, k, none⟩ = false := HBK.out.frozen _
      have hgl := HBK.out.lt
      have hq1 : (i : Int) / 8 = (k : Int) := by omega
      have hq2 : (i : Int).tdiv 8 = (k : Int) := by rw [Int.tdiv_eq_ediv_of_nonneg (by omega)]; exact hq1
      have hkw : IntKind.i64.wrap (k : Int) = (k : Int) := by rw [IntKind.wrap_i64]; omega
      have hkI : (k : Int) < (q : Int) := by omega
      have hr1 : (i : Int) % 8 = (s : Int) := by omega
      have hr2 : (i : Int).tmod 8 = (s : Int) := by rw [Int.tmod_eq_emod_of_nonneg (by omega)]; exact hr1
      have HOR : Hid (bits .or .u8 (y : Int) (IntKind.u8.wrap (2 ^ s)) = (z : Int)) := Lib.hid (by
        have e : IntKind.u8.wrap (2 ^ s) = ((2 ^ s : Nat) : Int) := by
          have h1 := bit_lt s hs8
          rw [IntKind.wrap_u8', show (2 : Int) ^ s = ((2 ^ s : Nat) : Int) from (Int.natCast_pow 2 s).symm]
          obtain ⟨p, hp⟩ : ∃ p, p = 2 ^ s := ⟨_, rfl⟩
          rw [← hp] at h1 ⊢
          omega
        rw [e, hz]
        exact u8_or_nat y (2 ^ s) (by rw [hy]; exact byteP_lt _ _) (bit_lt _ hs8))
      have HPUT : Hid ((cellsP (inP (H.take j)) q).setIfInBounds k (.int .u8 (z : Int)) = cellsP (inP (H.take (j + 1))) q) := Lib.hid (by rw [E1.out, E2.out]; exact cellsP_put _ hs8 z (by rw [hz, hy]))
      have hjI : (j : Int) < (m : Int) := by omega
      subst hA
      clear hx hxj hc hjl hk hs hy hz x0 x1 E1
      go_upto_region 5 with fail
      go_still_tail 22, (by kernel_rfl)
      rw [HOR.out]
      change wpList _ _ _ _ _ wr.drew
      go_wp2_with fail
      go_roundw
      case rel =>
        refine ⟨j + 1, by omega, by go_num, ?_, ?_⟩
        · have h1 := HBK.out.put k (.int .u8 (z : Int))
          rw [HPUT.out] at h1
          exact h1.drew
        · exact HBR.out.drew.setCell (Nat.le_refl _) _
      case measure => simp [intOf]; omega
    · obtain rfl : j = m := by omega
      have htk : H.take j = H := List.take_of_length_le (by rw [HM.out]; exact Nat.le_refl _)
      rw [htk] at HBK
      obtain ⟨u, hu⟩ : ∃ u, u = wr := ⟨_, rfl⟩
      subst hu
      have HCV : Hid (∀ W, Below u.heap.size u W → (convert 74 9 (.slice (some ⟨w.heap.size, 0, none⟩) q q)).run Tryz.prog W = .ok (.string B) W) := Lib.hid (fun W hW => by
        have hb := HBK.out.below hW HBK.out.lt
        have := run_convert_bytes_back (P := Tryz.prog) W 74 9 5 ⟨w.heap.size, 0, none⟩ q (bytesP (inP H) q) Tryz.underlying74 Tryz.underlying5 Tryz.underlying9 (fun i hi => by
          rw [bytesP_length] at hi
          rw [Go.WideShapes.add_plain, Nat.zero_add]
          have e2 : ((bytesP (inP H) q)[i]'(by rw [bytesP_length]; exact hi)).toNat = byteP (inP H) i := by
            unfold bytesP
            rw [List.getElem_map, List.getElem_range, UInt8.toNat_ofNat', Nat.mod_eq_of_lt (byteP_lt _ _)]
          rw [e2]
          exact (hb.cell i).trans (cellsP_get _ hi))
        rw [bytesP_length] at this
        rw [HBB.out]
        exact this)
      have h0J : Below u.heap.size u u.drew := (Below.refl _ _).drew
      clear htk
      go_upto_region 6 with fail
      refine wp_region_grow (Below u.heap.size u) (by kernel_rfl) (by kernel_rfl) h0J ?_
      refine grow_call (fun w' hw => (HL1.out w').mono fun e w'' ⟨he, hb⟩ => ⟨he, hw.trans (hb.mono hw.size)⟩) (by simp [Region.wanted]) (fun w' hw => by go_simp) ?_
      simp only [Act.put, List.setIfInBounds_toArray, List.set_cons_succ, List.set_cons_zero]
      apply grow_step
      · intro w' hw K hK
        go_simp
        exact hK
      · exact ⟨_, rfl, Nat.le_of_ble_eq_true rfl⟩
      · exact ⟨_, h0J⟩
      apply grow_step
      · intro w' hw K hK
        go_simp
        exact hK
      · exact ⟨_, rfl, Nat.le_of_ble_eq_true rfl⟩
      · exact ⟨_, h0J⟩
      refine grow_call (fun w' hw => (HLN.out w').mono fun e w'' ⟨he, hb⟩ => ⟨he, hw.trans (hb.mono hw.size)⟩) (by simp [Region.wanted]) (fun w' hw => by go_simp) ?_
      simp only [Act.put, List.setIfInBounds_toArray, List.set_cons_succ, List.set_cons_zero]
      apply grow_step
      · intro w' hw K hK
        go_simp
        exact hK
      · exact ⟨_, rfl, Nat.le_of_ble_eq_true rfl⟩
      · exact ⟨_, h0J⟩
      apply grow_step
      · intro w' hw K hK
        go_simp
        exact hK
      · exact ⟨_, rfl, Nat.le_of_ble_eq_true rfl⟩
      · exact ⟨_, h0J⟩
      apply grow_step
      · intro w' hw K hK
        have hcv := HCV.out w' hw
        go_simp
        exact hK
      · exact ⟨_, rfl, Nat.le_of_ble_eq_true rfl⟩
      · exact ⟨_, h0J⟩
      apply grow_step
      · intro w' hw K hK
        go_simp
        exact hK
      · exact ⟨_, rfl, Nat.le_of_ble_eq_true rfl⟩
      · exact ⟨_, h0J⟩
      refine grow_call (fun w' hw => (HSE.out w').mono fun e w'' ⟨he, hb⟩ => ⟨he, hw.trans (hb.mono hw.size)⟩) (by simp [Region.wanted]) (fun w' hw => by go_simp) ?_
      simp only [Act.put, List.setIfInBounds_toArray, List.set_cons_succ, List.set_cons_zero]
      apply grow_step
      · intro w' hw K hK
        go_simp
        exact hK
      · exact ⟨_, rfl, Nat.le_of_ble_eq_true rfl⟩
      · exact ⟨_, h0J⟩
      apply grow_step
      · intro w' hw K hK
        go_simp
        exact hK
      · exact ⟨_, rfl, Nat.le_of_ble_eq_true rfl⟩
      · exact ⟨_, h0J⟩
      apply grow_step
      · intro w' hw K hK
        go_simp
        exact hK
      · exact ⟨_, rfl, Nat.le_of_ble_eq_true rfl⟩
      · exact ⟨_, h0J⟩
      apply grow_step
      · intro w' hw K hK
        go_simp
        exact hK
      · exact ⟨_, rfl, Nat.le_of_ble_eq_true rfl⟩
      · exact ⟨_, h0J⟩
      apply grow_step
      · intro w' hw K hK
        go_simp
        exact hK
      · exact ⟨_, rfl, Nat.le_of_ble_eq_true rfl⟩
      · exact ⟨_, h0J⟩
      refine grow_nil ?_
      intro w5 hw5
      have HB5 := Lib.hid (HBR.out.trans (hw5.mono HBR.out.size))
      clear hw5 h0J
      go_wp2_with fail
      go_ret
      exact ⟨rfl, HB5.out⟩

theorem slice_part (w : World) (s X : ByteArray) (a b : Nat) (hab : a ≤ b) (hb : b ≤ s.size) (hX : s.extract a b = X) :
    (Instr.slice 9 (.string s) (some (.int .i64 (a : Int))) (some (.int .i64 (b : Int))) none).run Tryz.prog w = .ok (.string X) w := by
  have := run_slice_string (P := Tryz.prog) w 9 s .i64 .i64 (a : Int) (b : Int) Tryz.underlying9 (by omega) (by omega) (by omega)
  simp only [Int.toNat_natCast] at this
  rw [hX] at this
  exact this
set_option maxRecDepth 100000 in
set_option maxHeartbeats 8000000 in
theorem rreadroom_any (X : ByteArray) (w : World) :
    Calls Tryz.prog 24 #[.string X] w fun e w' => ∃ A c, e = .returned (.tuple #[.int .i64 ((readR X.data.toList).1 : Int), .slice A (readR X.data.toList).2.1.length c, .int .i64 (readR X.data.toList).2.2]) ∧
      w'.ownsRow w.heap.size 3 1 (.slice A (readR X.data.toList).2.1.length c) (readR X.data.toList).2.1.length ((readR X.data.toList).2.1.map (Value.int .i64)) ∧ Below w.heap.size w w' := by
  obtain ⟨i1, hi1, hy0, hy1, hy2⟩ := info_parts hints_info
  have hxl : X.data.toList.length = X.size := (Lib.size_eq X).symm
  by_cases h256 : X.size = 256
  · have h256I : (X.size : Int) = 256 := by omega
    have HOP : Hid (∀ W, Calls Tryz.prog 42 #[.string X] W fun e w' => e = .returned (openV X.data.toList) ∧ Below W.heap.size W w') := Lib.hid (fun W => ref_open X W (by omega))
    obtain ⟨L, hL⟩ : ∃ L, L = (openB X.data.toList).1 := ⟨_, rfl⟩
    obtain ⟨eo, heo⟩ : ∃ eo, eo = (openB X.data.toList).2 := ⟨_, rfl⟩
    obtain ⟨Y, hY⟩ : ∃ Y, Y = bs L := ⟨_, rfl⟩
    have hov : openV X.data.toList = .tuple #[.string Y, .int .i64 eo] := by unfold openV; rw [← hL, ← heo, hY]; rfl
    rw [hov] at HOP
    by_cases he : eo = 0
    · have hL252 : L.length = 252 := by
        have := openB_ok (l := X.data.toList) (by rw [← heo]; exact he)
        rw [hL, this, List.length_take, hxl]
        omega
      have hR : readR X.data.toList = if ¬ (1 ≤ sizeN L ∧ sizeN L ≤ 1900) then (0, [], 6) else if roomT (sizeN L) (bitsH L (sizeN L)) = X.data.toList then (sizeN L, bitsH L (sizeN L), 0) else (0, [], 6) := by
        unfold readR
        rw [← hL, ← heo, if_neg (by omega), if_neg (by omega)]
      rw [hR]
      have hY252 : Y.size = 252 := by rw [hY, bs_size, hL252]
      obtain ⟨Z, hZ⟩ : ∃ Z, Z = Y.extract 1 3 := ⟨_, rfl⟩
      have hZL : Z.data.toList = (L.drop 1).take 2 := by rw [hZ, hY, bs_extract, bs_list]
      obtain ⟨n, hn⟩ : ∃ n, n = sizeN L := ⟨_, rfl⟩
      have HNUM : Hid (∀ W, Calls Tryz.prog 43 #[.string Z] W fun e w' => e = .returned (.int .u64 (n : Int)) ∧ W = w') := Lib.hid (fun W => by
        have := ref_low Z W (by rw [Lib.size_eq, hZL, List.length_take]; omega)
        rw [hZL] at this
        rw [hn]
        exact this)
      have hn64 : n < 65536 := by rw [hn]; exact sizeN_lt L
      have hwn : IntKind.i64.wrap (n : Int) = (n : Int) := IntWalk.i64_in _ (by omega)
      have hsl : ∀ W, (Instr.slice 9 (.string Y) (some (.int .i64 1)) (some (.int .i64 3)) none).run Tryz.prog W = .ok (.string Z) W := fun W => slice_part W Y Z 1 3 (by omega) (by omega) hZ.symm
      have HYL : Hid (∀ i, i < 252 → Y[i]? = some (L.getD i 0)) := Lib.hid (fun i hi => by
        rw [hY]
        show (bs L)[i]? = _
        rw [getElem?_pos (bs L) i (by rw [bs_size]; omega)]
        rw [List.getD_eq_getElem?_getD, List.getElem?_eq_getElem (by omega)]
        rfl)
      rw [← hn]
      obtain ⟨T, hT⟩ : ∃ T, T = bs (roomT n (bitsH L n)) := ⟨_, rfl⟩
      have HTX : Hid ((T = X) ↔ roomT n (bitsH L n) = X.data.toList) := Lib.hid (by
        rw [hT]
        constructor
        · intro h; rw [← h, bs_list]
        · intro h; rw [h, list_bs])
      have HTT := Lib.hid hT
      obtain ⟨R, hRR⟩ : ∃ R : Nat × List Int × Int, R = if ¬ (1 ≤ n ∧ n ≤ 1900) then (0, [], 6) else if roomT n (bitsH L n) = X.data.toList then (n, bitsH L n, 0) else (0, [], 6) := ⟨_, rfl⟩
      rw [← hRR]
      have HRR := Lib.hid hRR
      subst he
      clear hov hL heo hY hL252 hR hn hT hxl h256 hRR hZ hZL hY252
      by_cases hin : 1 ≤ n ∧ n ≤ 1900
      · obtain ⟨n1, n2⟩ := hin
        have n1I : ¬ (n : Int) < 1 := by omega
        have n2I : ¬ (1900 : Int) < (n : Int) := by omega
        go_enter Tryz.func24, Tryz.ntmps24
        go_wp2_with fail
        refine (HOP.out _).mono ?_
        rintro e w1 ⟨rfl, hb1⟩
        have HB1 := Lib.hid hb1
        clear hb1
        go_wp2_with fail
        refine (HNUM.out _).mono ?_
        rintro e w2 ⟨rfl, rfl⟩
        go_wp2_with fail
        go_loopw [8, 9] (fun v i wr => ∃ (j : Nat) (xs : List Int) (A : Option Addr) (c : Nat), j ≤ n ∧ i = .int .i64 j ∧ xs = bitsH L j ∧ xs.length ≤ j ∧ v = .slice A xs.length c ∧ wr.ownsRow w1.heap.size 3 1 (.slice A xs.length c) xs.length (xs.map (Value.int .i64)) ∧ Below w1.heap.size w1 wr) (fun _ i _ => n - (intOf i).toNat)
        case atStart => exact ⟨0, [], none, 0, Nat.zero_le _, rfl, rfl, Nat.le_refl _, rfl, World.ownsRow_nil _ _ _ _, Below.refl _ _⟩
        case round =>
          obtain ⟨j, xs, A, c, hj, rfl, hxs, hxl, rfl, hrow, hbr⟩ := hrel
          have HXS := Lib.hid hxs
          have HRW := Lib.hid hrow
          have HBR := Lib.hid hbr
          clear hxs hrow hbr
          by_cases hlt : j < n
          · have hjI : (j : Int) < (n : Int) := by omega
            obtain ⟨k, hk⟩ : ∃ k, k = j / 8 := ⟨_, rfl⟩
            obtain ⟨t, ht⟩ : ∃ t, t = 3 + k := ⟨_, rfl⟩
            obtain ⟨s, hs⟩ : ∃ s, s = j % 8 := ⟨_, rfl⟩
            obtain ⟨x, hx⟩ : ∃ x, x = L.getD t 0 := ⟨_, rfl⟩
            obtain ⟨r, hr⟩ : ∃ r, r = bitAt L j := ⟨_, rfl⟩
            have hq' : (j : Int) / 8 = (k : Int) := by omega
            have hq : (j : Int).tdiv 8 = (k : Int) := by rw [Int.tdiv_eq_ediv_of_nonneg (by omega)]; exact hq'
            have hkw : IntKind.i64.wrap (k : Int) = (k : Int) := by rw [IntKind.wrap_i64]; omega
            have e1 : IntKind.i64.wrap (3 + (k : Int)) = (t : Int) := by rw [IntKind.wrap_i64]; omega
            have hr1 : (j : Int) % 8 = (s : Int) := by omega
            have hr2 : (j : Int).tmod 8 = (s : Int) := by rw [Int.tmod_eq_emod_of_nonneg (by omega)]; exact hr1
            have hix : ∀ W, (Instr.index 9 (.string Y) (.int .i64 (t : Int))).run Tryz.prog W = .ok (.int .u8 (x.toNat : Int)) W := fun W => index_str W Y t x (by rw [hx]; exact HYL.out t (by omega))
            have hs8 : s < 8 := by omega
            have E1 : Hid (bitsH L (j + 1) = if r = true then xs ++ [(j : Int)] else xs) := Lib.hid (by rw [hr, HXS.out]; exact bitsH_snoc L j)
            have HRB : Hid (r = (x.toNat / 2 ^ s % 2 == 1)) := Lib.hid (by rw [hr]; unfold bitAt; rw [← hk, ← ht, ← hx, ← hs])
            have hbit : (bits .and .u8 ((x.toNat : Int) / 2 ^ s) 1 == 1) = r := by
              rw [HRB.out, show (2 : Int) ^ s = ((2 ^ s : Nat) : Int) from (Int.natCast_pow 2 s).symm]
              obtain ⟨p, hp⟩ : ∃ p, p = 2 ^ s := ⟨_, rfl⟩
              have hp0 : 0 < p := by rw [hp]; exact Nat.two_pow_pos s
              rw [← hp]
              have hx8 := x.toNat_lt
              have hle : x.toNat / p ≤ x.toNat := Nat.div_le_self _ _
              rw [show ((x.toNat : Int) / (p : Int)) = ((x.toNat / p : Nat) : Int) from (Int.natCast_ediv _ _).symm]
              have := u8_and_nat (x.toNat / p) 1 (by omega) (by omega)
              rw [show ((1 : Nat) : Int) = 1 from rfl] at this
              rw [this, nat_mask1]
              have h2 : x.toNat / p % 2 < 2 := Nat.mod_lt _ (by omega)
              rcases (show x.toNat / p % 2 = 0 ∨ x.toNat / p % 2 = 1 by omega) with h | h <;> rw [h] <;> rfl
            clear hk ht hs hx hr HRB
            cases r with
            | true =>
              rw [if_pos rfl] at E1
              go_wp2_with (at_builtin; refine wpList_append_lies _ rfl (.tmp 46) (.tmp 48) 22 rfl w1.heap.size 3 i1 (.int .i64 0) 1 8 Tryz.underlying22 hi1 hy0 hy1 hy2 rfl (by omega) _ xs.length _ rfl (HRW.out.alloc _) ⟨wr.heap.size, 0, none⟩ 1 1 [.int .i64 j] rfl rfl ?c1 ?c2 (by omega) (by unfold maxLen; omega) (by omega) (by have := HBR.out.size; simp; omega) _ rfl ?_)
              case c1 =>
                intro a u ha
                match a, ha with
                | 0, ha => simp at ha; subst ha; simp [Addr.add]
              case c2 => intro u hu; simp at hu; subst hu; rfl
              intro g2 cap w3 hown hg hor hlt1
              have HB3 : Hid (Below w1.heap.size w1 w3) := Lib.hid ((HBR.out.alloc HBR.out.size _).grown hg (by have := HBR.out.size; simp; omega) (fun q e => (HRW.out.lt q e).1))
              have HR3 : Hid (w3.ownsRow w1.heap.size 3 1 (.slice (some ⟨g2, 0, none⟩) (xs.length + 1) cap) (xs.length + 1) ((xs ++ [(j : Int)]).map (Value.int .i64))) := Lib.hid (by rw [List.map_append]; exact hown)
              clear hown hg hor hlt1
              go_wp2_with fail
              go_roundw
              case rel =>
                refine ⟨j + 1, xs ++ [(j : Int)], some ⟨g2, 0, none⟩, cap, by omega, by go_num, E1.out.symm, by simp; omega, by rw [List.length_append]; rfl, ?_, HB3.out⟩
                rw [List.length_append]
                exact HR3.out
              case measure => simp [intOf]; omega
            | false =>
              rw [if_neg (by decide)] at E1
              go_wp2_with fail
              go_roundw
              case rel => exact ⟨j + 1, xs, A, c, by omega, by go_num, E1.out.symm, by omega, rfl, HRW.out, HBR.out⟩
              case measure => simp [intOf]; omega
          · obtain rfl : j = n := by omega
            obtain ⟨w2, hw2⟩ : ∃ w2, w2 = wr := ⟨_, rfl⟩
            subst hw2
            have HOK : Hid (HOk j xs) := Lib.hid (by rw [HXS.out]; exact bitsH_ok L (Nat.le_refl j))
            have HLR : Hid (Calls Tryz.prog 22 #[.int .i64 (j : Int), .slice A xs.length c] w2 fun e w' => e = .returned (.string T) ∧ Below w2.heap.size w2 w') := Lib.hid (by
              have := rlayroom_any j A xs.length c xs w2 n2 HOK.out rfl (row_ints HRW.out)
              rw [HTT.out, ← HXS.out]
              exact this)
            go_wp2_with fail
            refine HLR.out.mono ?_
            rintro e w3 ⟨rfl, hb3⟩
            have HB3 := Lib.hid ((HB1.out.trans (HBR.out.mono HB1.out.size)).trans (hb3.mono (Nat.le_trans HB1.out.size HBR.out.size)))
            have HR3 := Lib.hid (row_lower (row_below HRW.out hb3) HB1.out.size)
            clear hb3
            by_cases hs : T = X
            · have hse : (T.toList == X.toList) = true := by rw [same_text]; exact decide_eq_true hs
              have HRV : Hid (R = (j, xs, 0)) := Lib.hid (by rw [HRR.out, if_neg (fun h => h ⟨n1, n2⟩), if_pos (HTX.out.1 hs), ← HXS.out])
              clear hs
              go_wp2_with fail
              go_ret3
              rw [HRV.out]
              exact ⟨A, c, rfl, HR3.out, HB3.out⟩
            · have hse : (T.toList == X.toList) = false := by rw [same_text]; exact decide_eq_false hs
              have HRV : Hid (R = (0, [], 6)) := Lib.hid (by rw [HRR.out, if_neg (fun h => h ⟨n1, n2⟩), if_neg (fun h => hs (HTX.out.2 h))])
              clear hs
              go_wp2_with fail
              go_ret3
              rw [HRV.out]
              exact ⟨none, 0, rfl, World.ownsRow_nil _ _ _ _, HB3.out⟩
      · have HRV : Hid (R = (0, [], 6)) := Lib.hid (by rw [HRR.out, if_pos hin])
        by_cases n1 : n < 1
        · have n1I : (n : Int) < 1 := by omega
          clear hin
          go_enter Tryz.func24, Tryz.ntmps24
          go_wp2_with fail
          refine (HOP.out _).mono ?_
          rintro e w1 ⟨rfl, hb1⟩
          have HB1 := Lib.hid hb1
          clear hb1
          go_wp2_with fail
          refine (HNUM.out _).mono ?_
          rintro e w2 ⟨rfl, rfl⟩
          go_wp2_with fail
          go_ret3
          rw [HRV.out]
          exact ⟨none, 0, rfl, World.ownsRow_nil _ _ _ _, HB1.out⟩
        · have n1I : ¬ (n : Int) < 1 := by omega
          have n2I : (1900 : Int) < (n : Int) := by omega
          clear hin
          go_enter Tryz.func24, Tryz.ntmps24
          go_wp2_with fail
          refine (HOP.out _).mono ?_
          rintro e w1 ⟨rfl, hb1⟩
          have HB1 := Lib.hid hb1
          clear hb1
          go_wp2_with fail
          refine (HNUM.out _).mono ?_
          rintro e w2 ⟨rfl, rfl⟩
          go_wp2_with fail
          go_ret3
          rw [HRV.out]
          exact ⟨none, 0, rfl, World.ownsRow_nil _ _ _ _, HB1.out⟩
    · have hR : readR X.data.toList = (0, [], eo) := by
        unfold readR
        rw [← heo, if_neg (by omega), if_pos he]
      rw [hR]
      have HE := Lib.hid he
      clear hov hL heo hY hR hxl h256
      go_enter Tryz.func24, Tryz.ntmps24
      go_wp2_with fail
      refine (HOP.out _).mono ?_
      rintro e w1 ⟨rfl, hb1⟩
      have HB1 := Lib.hid hb1
      clear hb1
      go_wp2_with fail
      go_ret3
      exact ⟨none, 0, rfl, World.ownsRow_nil _ _ _ _, HB1.out⟩
  · have h256I : ¬ (X.size : Int) = 256 := by omega
    have hR : readR X.data.toList = (0, [], 5) := by unfold readR; rw [if_pos (by omega)]
    rw [hR]
    clear hR hxl
    go_enter Tryz.func24, Tryz.ntmps24
    go_wp2_with fail
    go_ret3
    exact ⟨none, 0, rfl, World.ownsRow_nil _ _ _ _, Below.refl _ _⟩
end Go.Proofs.YtbaanoomilohhaaGreat
