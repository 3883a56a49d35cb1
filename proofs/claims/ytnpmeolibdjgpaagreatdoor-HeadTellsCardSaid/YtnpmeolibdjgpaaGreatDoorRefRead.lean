/-
  The document's own ReadHead. No statement is proved here.
-/
import Derived.Test.YtnpmeolibdjgpaaGreatDoorBytes
import Derived.Test.YtnpmeolibdjgpaaGreatDoorOutPure
import Derived.Deep.AppendLies
import Derived.Lib.Bytes
import Derived.Test.YtnpmeolibdjgpaaGreatDoorCrcOf
import Derived.Test.YtnpmeolibdjgpaaGreatDoorCrcSeal
import Derived.Test.YtnpmeolibdjgpaaGreatDoorCrcOpen
import Derived.Test.YtnpmeolibdjgpaaGreatDoorHeadReadAny
import Derived.Test.YtnpmeolibdjgpaaGreatDoorGrow
import Derived.Test.YtnpmeolibdjgpaaGreatDoorIn
import Derived.Test.YtnpmeolibdjgpaaGreatDoorSinks
namespace Go.Proofs.YtnpmeolibdjgpaaGreatDoor
open Go.RowKit

theorem low_cell (l : List UInt8) (m : Nat) : Lib.byteCells l ++ [Value.int .u8 ((m : Int) % 256)] = Lib.byteCells (l ++ lowBytes 1 m) := by
  simp [Lib.byteCells, lowBytes, Nat.toUInt8]
theorem lowBytes_more (j m : Nat) : lowBytes j m ++ lowBytes 1 (m / 256 ^ j) = lowBytes (j + 1) m := by
  rw [lowBytes_snoc j m]
  rfl
theorem low_div (j m : Nat) : m / 256 ^ (j + 1) = m / 256 ^ j / 256 := by rw [Nat.pow_succ, Nat.div_div_eq_div_mul]

set_option maxRecDepth 100000 in
set_option maxHeartbeats 2000000 in
theorem ref_lowbytes (m k : Nat) (w : World) (hm : m < 18446744073709551616) (hk0 : 0 < k) (hk : k ≤ 8) :
    Calls Tryz.prog 48 #[.int .u64 m, .int .i64 k] w fun e w' => e = .returned (.string ⟨(lowBytes k m).toArray⟩) ∧ Below w.heap.size w w' := by
  obtain ⟨i0, hi, hz0, hz1, hz2⟩ := info_parts byte_info
  go_enter Tryz.func48, Tryz.ntmps48
  go_wp2_with fail
  go_loopw [0, 5, 6] (fun x v i wr => ∃ j : Nat, j ≤ k ∧ i = .int .i64 j ∧ x = .int .u64 ((m / 256 ^ j : Nat) : Int) ∧ wr.ownsRow w.heap.size 5 1 v j (Lib.byteCells (lowBytes j m)) ∧ Below w.heap.size w wr) (fun _ _ i _ => k - (intOf i).toNat)
  case atStart => exact ⟨0, Nat.zero_le _, rfl, by simp, World.ownsRow_nil _ _ _ _, Below.refl _ _⟩
  case round =>
    obtain ⟨j, hj, rfl, rfl, hown, hbr⟩ := hrel
    by_cases hlt : j < k
    · have HJ := Lib.hid (low_div j m)
      have HL := Lib.hid (lowBytes_more j m)
      have HLL := Lib.hid (show (Lib.byteCells (lowBytes j m)).length = j by rw [Lib.byteCells_length, lowBytes_length])
      obtain ⟨M, hM⟩ : ∃ M, M = m / 256 ^ j := ⟨_, rfl⟩
      have hMl : M < 18446744073709551616 := by rw [hM]; exact Nat.lt_of_le_of_lt (Nat.div_le_self _ _) hm
      rw [← hM]
      have HM := Lib.hid hM
      clear hM hm
      have HOWN := Lib.hid hown
      clear hown
      go_wp2_with (at_builtin; refine wpList_append_lies _ rfl (.tmp 12) (.tmp 15) 86 rfl w.heap.size 5 i0 (.int .u8 0) 1 1 Tryz.underlying86 hi hz0 hz1 hz2 rfl (by omega) _ j _ rfl (HOWN.out.alloc _) ⟨wr.heap.size, 0, none⟩ 1 1 [.int .u8 ((M : Int) % 256)] rfl rfl ?c1 ?c2 (by omega) (by unfold maxLen; omega) (by omega) (by have := hbr.size; simp; omega) _ rfl ?_)
      case c1 =>
        intro a u ha
        match a, ha with
        | 0, ha => simp at ha; subst ha; simp [Addr.add]
      case c2 => intro u hu; simp at hu; subst hu; rfl
      intro g cap w1 hown1 hg1 hor hlt1
      have hb1 : Below w.heap.size w w1 := (hbr.alloc hbr.size _).grown hg1 (by have := hbr.size; simp; omega) (fun k hk => (HOWN.out.lt k hk).1)
      have HB1 := Lib.hid hb1
      rw [low_cell] at hown1
      have HOW := Lib.hid hown1
      clear hown1 hg1 hor hb1 hbr
      go_wp2
      go_roundw
      case rel => exact ⟨j + 1, by omega, by go_num, by rw [HJ.out, ← HM.out]; simp, by have h := HOW.out; rw [HM.out, HL.out] at h; exact h, HB1.out⟩
      case measure => simp [intOf]; omega
    · obtain rfl : j = k := by omega
      obtain ⟨g, cap, rfl, hg0, hlt1⟩ := hown.form hk0
      have hcv := run_convert_bytes_back (P := Tryz.prog) wr 86 9 5 ⟨g, 0, none⟩ cap (lowBytes j m) Tryz.underlying86 Tryz.underlying5 Tryz.underlying9
        (fun i hi => hown.cells (g := g) rfl i _ (by simp [Lib.byteCells, List.getElem?_eq_getElem hi]))
      rw [lowBytes_length] at hcv
      clear hown
      go_wp2
      go_ret
      exact ⟨rfl, hbr⟩
theorem ref_low4 (m : Nat) (w : World) (hm : m < 4294967296) :
    Calls Tryz.prog 48 #[.int .u64 m, .int .i64 4] w fun e w' => e = .returned (.string ⟨(lowBytes 4 m).toArray⟩) ∧ Below w.heap.size w w' :=
  ref_lowbytes m 4 w (by omega) (by omega) (by omega)
end Go.Proofs.YtnpmeolibdjgpaaGreatDoor

namespace Go.Proofs.YtnpmeolibdjgpaaGreatDoor
open Go.RowKit

theorem not_xor (x : Nat) (h : x < 4294967296) : bits .xor .u32 IntKind.u32.max (x : Int) = ((x ^^^ 4294967295 : Nat) : Int) := by
  show bits .xor .u32 ((4294967295 : Nat) : Int) (x : Int) = _
  rw [u32_xor_nat 4294967295 x (by omega) h, Nat.xor_comm]

set_option maxHeartbeats 1000000 in
theorem ref_crc (x : ByteArray) (w : World) (hx : x.size ≤ 140737488351232) :
    Calls Tryz.prog 49 #[.string x] w fun e w' => e = .returned (.int .u32 (crc x.data.toList)) ∧ w = w' := by
  go_enter Tryz.func49, Tryz.ntmps49
  go_wp2
  go_loop [3, 4] (fun v i => ∃ k : Nat, k ≤ x.size ∧ i = .int .i64 k ∧ v = .int .u32 (crcFold 4294967295 (x.data.toList.take k))) (fun _ i => x.size - (intOf i).toNat)
  case atStart => exact ⟨0, Nat.zero_le _, rfl, rfl⟩
  case round =>
    obtain ⟨k, hk, rfl, rfl⟩ := hrel
    have ht := crcFold_lt (x.data.toList.take k) (x := 4294967295) (by omega)
    by_cases hkx : k < x.size
    · have hf := fold_next 4294967295 hkx
      obtain ⟨t, ht0⟩ : ∃ t, t = crcFold 4294967295 (x.data.toList.take k) := ⟨_, rfl⟩
      rw [← ht0] at ht hf ⊢
      have HF := Lib.hid hf
      have hb := byte_cast t x[k] ht
      have hl := byte_xor_lt x[k] ht
      obtain ⟨y, hy⟩ : ∃ y, y = t ^^^ x[k].toNat := ⟨_, rfl⟩
      rw [← hy] at hb hl
      have HY := Lib.hid hy
      clear ht0 hf hy
      go_wp2_with fail
      clear hb
      go_loop [3, 5] (fun v i => ∃ j : Nat, j ≤ 8 ∧ i = .int .i64 j ∧ v = .int .u32 (shifts j y)) (fun _ i => 8 - (intOf i).toNat)
      case atStart => exact ⟨0, Nat.zero_le _, rfl, rfl⟩
      case round =>
        obtain ⟨j, hj, rfl, rfl⟩ := hrel
        by_cases hlt : j < 8
        · have hz := shifts_lt j hl
          have hs : shifts (j + 1) y = shift1 (shifts j y) := rfl
          have HS := Lib.hid hs
          clear hs
          generalize shifts j y = z at *
          by_cases ho : z % 2 = 1
          · have e1 : ((z : Int) % 2 == 1) = true := by rw [beq_iff_eq]; omega
            have HO := Lib.hid (shift1_odd ho)
            clear ho
            go_wp2
            go_round
            case rel => exact ⟨j + 1, by omega, by go_num, by rw [HS.out, HO.out, half_cast, poly_cast z hz]⟩
            case measure => simp [intOf]; omega
          · have e1 : ((z : Int) % 2 == 1) = false := by rw [beq_eq_false_iff_ne]; omega
            have HO := Lib.hid (shift1_even ho)
            clear ho
            go_wp2
            go_round
            case rel => exact ⟨j + 1, by omega, by go_num, by rw [HS.out, HO.out, half_cast]⟩
            case measure => simp [intOf]; omega
        · obtain rfl : j = 8 := by omega
          go_wp2
          go_round
          case rel => exact ⟨k + 1, by omega, by go_num, by rw [HF.out, crcByte_shifts, HY.out]⟩
          case measure => simp [intOf]; omega
    · have hk2 : x.data.toList.take k = x.data.toList := List.take_of_length_le (by rw [Array.length_toList]; show x.size ≤ k; omega)
      rw [hk2] at ht ⊢
      clear hk2
      go_wp2
      go_ret
      exact ⟨ret_u32 (not_xor _ ht), rfl⟩
end Go.Proofs.YtnpmeolibdjgpaaGreatDoor

namespace Go.Proofs.YtnpmeolibdjgpaaGreatDoor
open Go.RowKit

theorem append_list (s t : ByteArray) : (s ++ t).data.toList = s.data.toList ++ t.data.toList := by
  rw [ByteArray.data_append, Array.toList_append]
theorem append_zeros (s : ByteArray) (N : Nat) : (s ++ zeroB N).data.toList = s.data.toList ++ List.replicate N 0 := by
  rw [append_list, zeroB_list]
theorem append_mk (s : ByteArray) (l : List UInt8) : s ++ ⟨l.toArray⟩ = ⟨(s.data.toList ++ l).toArray⟩ := by
  apply ByteArray.ext
  apply Array.toList_inj.1
  rw [append_list]

set_option maxRecDepth 100000 in
set_option maxHeartbeats 1000000 in
theorem ref_seal (n : Int) (s : ByteArray) (w : World) (hs : s.size ≤ 1000000) :
    Calls Tryz.prog 9 #[.int .i64 n, .string s] w fun e w' => e = .returned (sealV n s.data.toList) ∧ Below w.heap.size w w' := by
  by_cases ha : n < 4 ∨ 65536 < n
  · have E : sealV n s.data.toList = .tuple #[.string .empty, .int .i64 1] := by unfold sealV; rw [sealB_arg ha]; rfl
    rw [E]
    clear E
    by_cases h1 : n < 4
    · go_enter Tryz.func9, Tryz.ntmps9
      go_wp2_with fail
      go_ret2
      exact ⟨rfl, Below.refl _ _⟩
    · have h2 : 65536 < n := by omega
      clear ha
      go_enter Tryz.func9, Tryz.ntmps9
      go_wp2_with fail
      go_ret2
      exact ⟨rfl, Below.refl _ _⟩
  · have h0 : 4 ≤ n := by omega
    have h1 : n ≤ 65536 := by omega
    clear ha
    by_cases hbig : n - 4 < (s.size : Int)
    · have E : sealV n s.data.toList = .tuple #[.string .empty, .int .i64 2] := by unfold sealV; rw [sealB_long h0 h1 (by rw [← Lib.size_eq]; exact hbig)]; rfl
      rw [E]
      clear E
      go_enter Tryz.func9, Tryz.ntmps9
      go_wp2_with fail
      go_ret2
      exact ⟨rfl, Below.refl _ _⟩
    · have hsm : (s.size : Int) ≤ n - 4 := by omega
      clear hbig
      obtain ⟨N, hN⟩ : ∃ N : Nat, (N : Int) = n - 4 - s.size := ⟨(n - 4 - s.size).toNat, by omega⟩
      have hNb : N ≤ 65532 := by omega
      have eb : body n s.data.toList = (s ++ zeroB N).data.toList := by
        rw [append_zeros]
        unfold body
        rw [← Lib.size_eq]
        congr 2
        omega
      have E : sealV n s.data.toList = .tuple #[.string ((s ++ zeroB N) ++ ⟨(lowBytes 4 (crc (s ++ zeroB N).data.toList)).toArray⟩), .int .i64 0] := by
        unfold sealV
        rw [sealB_ok h0 h1 (by rw [← Lib.size_eq]; exact hsm), eb, append_mk (s ++ zeroB N)]
      rw [E]
      have hz : (s ++ zeroB N).size ≤ 140737488351232 := by rw [ByteArray.size_append, zeroB_size]; omega
      have HN := Lib.hid hN
      have HZ := Lib.hid hz
      clear E eb hN hz
      go_enter Tryz.func9, Tryz.ntmps9
      go_wp2_with fail
      rw [← HN.out]
      refine (ref_zeros N _ (by omega)).mono ?_
      rintro e w1 ⟨rfl, hb1⟩
      have hcl := crc_lt (s ++ zeroB N).data.toList
      have hsz : s.size + (zeroB N).size ≤ 9223372036854775807 := by rw [zeroB_size]; omega
      have hsz2 : (s ++ zeroB N).size + 4 ≤ 9223372036854775807 := by have := HZ.out; omega
      obtain ⟨Z, hZE⟩ : ∃ Z, Z = zeroB N := ⟨_, rfl⟩
      rw [← hZE] at HZ hcl hsz hsz2 ⊢
      have HZE := Lib.hid hZE
      obtain ⟨C, hC⟩ : ∃ C, C = crc (s ++ Z).data.toList := ⟨_, rfl⟩
      have hrc := fun w => ref_crc (s ++ Z) w HZ.out
      simp only [← hC] at hrc hcl
      have HRC := Lib.hid hrc
      have HC := Lib.hid hC
      clear hC hrc hZE
      go_wp2_with fail
      refine (HRC.out _).mono ?_
      rintro e w2 ⟨rfl, rfl⟩
      go_wp2_with fail
      obtain ⟨V, hV⟩ : ∃ V : ByteArray, V = ⟨(lowBytes 4 C).toArray⟩ := ⟨_, rfl⟩
      have hVs : V.size ≤ 4 := by rw [hV, Lib.size_eq]; show (lowBytes 4 C).length ≤ 4; rw [lowBytes_length]; exact Nat.le_refl _
      have hsz3 : (s ++ Z).size + V.size ≤ 9223372036854775807 := by omega
      have hsz4 : s.size + Z.size + V.size ≤ 9223372036854775807 := by rw [ByteArray.size_append] at hsz3; exact hsz3
      have hrl := fun w => ref_low4 C w hcl
      simp only [← hV] at hrl
      have HRL := Lib.hid hrl
      have HV := Lib.hid hV
      clear hV hrl
      refine (HRL.out _).mono ?_
      rintro e w3 ⟨rfl, hb3⟩
      go_wp2_with fail
      go_ret2
      exact ⟨by rw [HV.out, HC.out, HZE.out]; rfl, hb1.trans (hb3.mono hb1.size)⟩

theorem open_eq {b H T : ByteArray} {k : Nat} (hk : b.size = k + 4) (hT : T = b.extract k b.size) (hH : H = b.extract 0 k) (c : Nat) (hc : c < 4294967296) :
    (H ++ ⟨(lowBytes 4 c).toArray⟩ = b) ↔ low T.data.toList = c := by
  have hl : b.data.toList.length = k + 4 := by rw [← Lib.size_eq]; exact hk
  have eT : T.data.toList = b.data.toList.drop k := by
    rw [hT, ByteArray.data_extract, Array.toList_extract, List.extract_eq_take_drop, List.take_of_length_le (by rw [List.length_drop, hl, hk]; exact Nat.le_refl _)]
  have eH : H.data.toList = b.data.toList.take k := by
    rw [hH, ByteArray.data_extract, Array.toList_extract, List.extract_eq_take_drop, List.drop_zero, Nat.sub_zero]
  have hTl : T.data.toList.length = 4 := by rw [eT, List.length_drop, hl]; omega
  rw [append_mk, eH]
  constructor
  · intro h
    have h2 := congrArg (fun x : ByteArray => x.data.toList.drop k) h
    simp only [List.drop_left' (show (b.data.toList.take k).length = k by rw [List.length_take, hl]; omega)] at h2
    rw [eT, ← h2, low_four hc]
  · intro h
    have h2 := lowBytes_low T.data.toList
    rw [hTl, h, eT] at h2
    rw [h2, List.take_append_drop]

set_option maxRecDepth 100000 in
set_option maxHeartbeats 1000000 in
theorem ref_open (b : ByteArray) (w : World) (hb : b.size ≤ 140737488351232) :
    Calls Tryz.prog 60 #[.string b] w fun e w' => e = .returned (openV b.data.toList) ∧ Below w.heap.size w w' := by
  by_cases h4 : b.size < 4
  · have E : openV b.data.toList = .tuple #[.string .empty, .int .i64 5] := by unfold openV openB; rw [if_pos (by rw [← Lib.size_eq]; exact h4)]; rfl
    rw [E]
    clear E
    go_enter Tryz.func60, Tryz.ntmps60
    go_wp2_with fail
    go_ret2
    exact ⟨rfl, Below.refl _ _⟩
  · have hk : b.size = b.size - 4 + 4 := by omega
    have hk1 : 4 ≤ b.size := by omega
    have hV := openV_of hk rfl rfl
    have hE := fun c hc => open_eq hk (T := b.extract (b.size - 4) b.size) (H := b.extract 0 (b.size - 4)) rfl rfl c hc
    have hH : (b.extract 0 (b.size - 4)).size ≤ 140737488351232 := by simp; omega
    have hcl := crc_lt (b.extract 0 (b.size - 4)).data.toList
    have hrc := fun w => ref_crc (b.extract 0 (b.size - 4)) w hH
    obtain ⟨H, hHH⟩ : ∃ H, H = b.extract 0 (b.size - 4) := ⟨_, rfl⟩
    obtain ⟨T, hT⟩ : ∃ T, T = b.extract (b.size - 4) b.size := ⟨_, rfl⟩
    obtain ⟨C, hC⟩ : ∃ C, C = crc H.data.toList := ⟨_, rfl⟩
    simp only [← hHH, ← hT, ← hC] at hrc hcl hH hE hV
    obtain ⟨V, hVV⟩ : ∃ V : ByteArray, V = ⟨(lowBytes 4 C).toArray⟩ := ⟨_, rfl⟩
    have hVs : V.size ≤ 4 := by rw [hVV, Lib.size_eq]; show (lowBytes 4 C).length ≤ 4; rw [lowBytes_length]; exact Nat.le_refl _
    have hrl := fun w => ref_low4 C w hcl
    have hE' := hE C hcl
    simp only [← hVV] at hrl hE'
    have hsz : H.size + V.size ≤ 9223372036854775807 := by omega
    have HV := Lib.hid hV
    have HE := Lib.hid hE'
    have HRC := Lib.hid hrc
    have HRL := Lib.hid hrl
    have HHH := Lib.hid hHH
    clear hk hC hrc h4 hV hE hE' hrl hVV hHH hT
    go_enter Tryz.func60, Tryz.ntmps60
    go_wp2_with fail
    rw [← HHH.out]
    refine (HRC.out _).mono ?_
    rintro e w2 ⟨rfl, rfl⟩
    go_wp2_with fail
    refine (HRL.out _).mono ?_
    rintro e w3 ⟨rfl, hb3⟩
    by_cases he : low T.data.toList = C
    · have hq : H ++ V = b := HE.out.2 he
      have HQ := Lib.hid he
      clear he
      go_wp2_with fail
      go_ret2
      exact ⟨by rw [HV.out, if_pos HQ.out]; rfl, hb3⟩
    · have hq : ((H ++ V).toList == b.toList) = false := by
        rw [beq_eq_false_iff_ne, Lib.toList_data, Lib.toList_data]
        exact fun h => he (HE.out.1 (ByteArray.ext (Array.toList_inj.1 h)))
      have HQ := Lib.hid he
      clear he
      go_wp2_with fail
      go_ret2
      exact ⟨by rw [HV.out, if_neg HQ.out]; rfl, hb3⟩
end Go.Proofs.YtnpmeolibdjgpaaGreatDoor

namespace Go.Proofs.YtnpmeolibdjgpaaGreatDoor
open Go.RowKit

theorem bs_join (a b : List UInt8) : bs a ++ bs b = bs (a ++ b) := by
  apply ByteArray.ext
  apply Array.toList_inj.1
  show (bs a ++ bs b).data.toList = (bs (a ++ b)).data.toList
  rw [append_list, bs_list, bs_list, bs_list]

set_option maxRecDepth 100000 in
set_option maxHeartbeats 8000000 in
theorem rlay_any (h : HD) (hv : h.Valid) (A : Option Addr) (c : Nat) (w : World) (ha : h.At w A c) :
    Calls Tryz.prog 14 #[h.val A c] w fun e w' => e = .returned (.string (bs h.text)) ∧ Below w.heap.size w w' := by
  have hseal : ∀ W, Calls Tryz.prog 9 #[.int .i64 256, .string (bs h.bytes)] W fun e w' => e = .returned (.tuple #[.string (bs h.text), .int .i64 0]) ∧ Below W.heap.size W w' := fun W => by
    have := ref_seal 256 (bs h.bytes) W (by rw [bs_size, h.len]; have := hv.few; omega)
    unfold sealV at this
    rw [bs_list, hv.sealed] at this
    exact this
  obtain ⟨seq, full, ts⟩ := h
  obtain ⟨hlie, hfew⟩ := ha
  have hsq := hv.seq
  have hfw := hv.few
  have hrg := hv.range
  simp only at hlie hfew hsq hfw hrg
  obtain ⟨sq, rfl⟩ : ∃ n : Nat, seq = (n : Int) := ⟨seq.toNat, by omega⟩
  obtain ⟨T, hT⟩ : ∃ T, T = bs (HD.mk sq full ts).text := ⟨_, rfl⟩
  rw [← hT] at hseal ⊢
  unfold HD.val
  simp only
  obtain ⟨n, hn⟩ : ∃ n, n = ts.length := ⟨_, rfl⟩
  rw [← hn]
  obtain ⟨u, hu⟩ : ∃ u, u = w.alloc (.cells #[.int .i64 sq, .bool full, .slice A n c] 30) := ⟨_, rfl⟩
  have HBU : Hid (Below w.heap.size w u) := Lib.hid (by rw [hu]; exact (Below.refl _ _).alloc (Nat.le_refl _) _)
  have bk : Blk u w.heap.size 30 #[.int .i64 sq, .bool full, .slice A n c] := by rw [hu]; exact Blk.new w _ _
  have HC : Hid (∀ w', Below u.heap.size u w' → w'.cell? ⟨w.heap.size, 0, none⟩ = some (.int .i64 sq) ∧ w'.cell? ⟨w.heap.size, 1, none⟩ = some (.bool full) ∧ w'.cell? ⟨w.heap.size, 2, none⟩ = some (.slice A n c)) := Lib.hid (fun w' hw => ⟨(bk.below hw bk.lt).cell 0, (bk.below hw bk.lt).cell 1, (bk.below hw bk.lt).cell 2⟩)
  have HX : Hid (Ints u u.heap.size A ts) := Lib.hid ((hlie.below HBU.out).more HBU.out.size)
  obtain ⟨c0, c1, c2⟩ := HC.out u (Below.refl _ _)
  have h0J : Below u.heap.size u u.drew := (Below.refl _ _).drew
  have HU := Lib.hid hu
  have HN := Lib.hid hn
  have hnI : (n : Int) ≤ 1000000 := by omega
  obtain ⟨L1, hL1⟩ : ∃ L, L = bs (lowBytes 1 7) := ⟨_, rfl⟩
  obtain ⟨L2, hL2⟩ : ∃ L, L = bs (lowBytes 1 (bitN full)) := ⟨_, rfl⟩
  obtain ⟨L8, hL8⟩ : ∃ L, L = bs (lowBytes 8 sq) := ⟨_, rfl⟩
  obtain ⟨LN, hLN⟩ : ∃ L, L = bs (lowBytes 2 n) := ⟨_, rfl⟩
  have z1 : L1.size = 1 := by rw [hL1, bs_size, lowBytes_length]
  have z2 : L2.size = 1 := by rw [hL2, bs_size, lowBytes_length]
  have z8 : L8.size = 8 := by rw [hL8, bs_size, lowBytes_length]
  have zN : LN.size = 2 := by rw [hLN, bs_size, lowBytes_length]
  have HL1 : Hid (∀ W, Calls Tryz.prog 48 #[.int .u64 7, .int .i64 1] W fun e w' => e = .returned (.string L1) ∧ Below W.heap.size W w') := Lib.hid (fun W => by rw [hL1]; exact ref_lowbytes 7 1 W (by omega) (by omega) (by omega))
  have HL2' : Hid (∀ W, Calls Tryz.prog 48 #[.int .u64 (bitN full : Int), .int .i64 1] W fun e w' => e = .returned (.string L2) ∧ Below W.heap.size W w') := Lib.hid (fun W => by rw [hL2]; exact ref_lowbytes (bitN full) 1 W (by have := bitN_lt full; omega) (by omega) (by omega))
  have HL8 : Hid (∀ W, Calls Tryz.prog 48 #[.int .u64 (sq : Int), .int .i64 8] W fun e w' => e = .returned (.string L8) ∧ Below W.heap.size W w') := Lib.hid (fun W => by rw [hL8]; exact ref_lowbytes sq 8 W (by omega) (by omega) (by omega))
  have HLN : Hid (∀ W, Calls Tryz.prog 48 #[.int .u64 (n : Int), .int .i64 2] W fun e w' => e = .returned (.string LN) ∧ Below W.heap.size W w') := Lib.hid (fun W => by rw [hLN]; exact ref_lowbytes n 2 W (by omega) (by omega) (by omega))
  have hws : IntKind.u64.wrap (sq : Int) = (sq : Int) := IntWalk.u64_in _ (by omega)
  have hwn : IntKind.u64.wrap (n : Int) = (n : Int) := IntWalk.u64_in _ (by omega)
  obtain ⟨S, hS⟩ : ∃ S : Nat → ByteArray, S = fun j => L1 ++ L2 ++ L8 ++ LN ++ bs (allBytes 2 (ts.take j)) := ⟨_, rfl⟩
  have HS0 : Hid (S 0 = L1 ++ L2 ++ L8 ++ LN) := Lib.hid (by
    rw [hS, hL1, hL2, hL8, hLN]
    simp only [bs_join, List.take_zero]
    rw [show allBytes 2 [] = [] from rfl, List.append_nil])
  have HSN : Hid (∀ j x, ts[j]? = some x → ∃ X, X.size = 2 ∧ (S j).size + 2 ≤ 9223372036854775807 ∧ (∀ W, Calls Tryz.prog 48 #[.int .u64 x, .int .i64 2] W fun e w' => e = .returned (.string X) ∧ Below W.heap.size W w') ∧ S j ++ X = S (j + 1)) := Lib.hid (fun j x hx => by
    have hjl : j < ts.length := by
      rcases Nat.lt_or_ge j ts.length with h | h
      · exact h
      · rw [List.getElem?_eq_none h] at hx; cases hx
    have hxe : ts[j] = x := by rw [List.getElem?_eq_getElem hjl] at hx; exact Option.some.inj hx
    have hr := hrg x (by rw [← hxe]; exact List.getElem_mem hjl)
    obtain ⟨xn, rfl⟩ : ∃ n : Nat, x = (n : Int) := ⟨x.toNat, by omega⟩
    refine ⟨bs (lowBytes 2 xn), by rw [bs_size, lowBytes_length], ?_, fun W => ref_lowbytes xn 2 W (by omega) (by omega) (by omega), ?_⟩
    · rw [hS]
      simp only [ByteArray.size_append, z1, z2, z8, zN, bs_size, allBytes_length, List.length_take]
      have : min j ts.length * 2 ≤ ts.length * 2 := Nat.mul_le_mul_right _ (by omega)
      omega
    · rw [hS]
      simp only
      rw [ByteArray.append_assoc, bs_join, List.take_succ_eq_append_getElem hjl, hxe]
      congr 2
      simp [allBytes])
  have HXN : Hid (∀ x ∈ ts, ∃ xn : Nat, x = (xn : Int) ∧ xn < 2000) := Lib.hid (fun x hx => ⟨x.toNat, by have := hrg x hx; omega, by have := hrg x hx; omega⟩)
  have HSEAL : Hid (∀ W, Calls Tryz.prog 9 #[.int .i64 256, .string (S n)] W fun e w' => e = .returned (.tuple #[.string T, .int .i64 0]) ∧ Below W.heap.size W w') := Lib.hid (fun W => by
    have := hseal W
    rwa [show bs (HD.mk sq full ts).bytes = S n by
      rw [hS, hL1, hL2, hL8, hLN]
      simp only [bs_join]
      unfold HD.bytes
      simp only [Int.toNat_natCast]
      rw [hn, List.take_length]
      simp only [List.append_assoc]] at this)
  clear hseal hlie hfew hv hrg hT bk hL1 hL2 hL8 hLN hS hu hn
  cases full with
  | true =>
    have HL2 : Hid (∀ W, Calls Tryz.prog 48 #[.int .u64 1, .int .i64 1] W fun e w' => e = .returned (.string L2) ∧ Below W.heap.size W w') := HL2'
    clear HL2'
    go_enter Tryz.func14, Tryz.ntmps14
    go_upto_region 4 with fail
    rw [← HU.out]
    refine wp_region_grow (Below u.heap.size u) (by kernel_rfl) (by kernel_rfl) h0J ?_
    refine grow_call (fun w' hw => (HL1.out w').mono fun e w'' ⟨he, hb⟩ => ⟨he, hw.trans (hb.mono hw.size)⟩) (by simp [Region.wanted]) (fun w' hw => by go_simp) ?_
    simp only [Act.put, List.setIfInBounds_toArray, List.set_cons_succ, List.set_cons_zero]
    apply grow_step
    · intro w' hw K hK
      go_simp
      exact hK
    · exact ⟨_, rfl, Nat.le_of_ble_eq_true rfl⟩
    · exact ⟨_, h0J⟩
    refine grow_call (fun w' hw => (HL2.out w').mono fun e w'' ⟨he, hb⟩ => ⟨he, hw.trans (hb.mono hw.size)⟩) (by simp [Region.wanted]) (fun w' hw => by go_simp) ?_
    simp only [Act.put, List.setIfInBounds_toArray, List.set_cons_succ, List.set_cons_zero]
    apply grow_step
    · intro w' hw K hK
      go_simp
      exact hK
    · exact ⟨_, rfl, Nat.le_of_ble_eq_true rfl⟩
    · exact ⟨_, h0J⟩
    apply grow_step
    · intro w' hw K hK
      obtain ⟨c0, c1, c2⟩ := HC.out w' hw
      go_simp
      exact hK
    · exact ⟨_, rfl, Nat.le_of_ble_eq_true rfl⟩
    · exact ⟨_, h0J⟩
    apply grow_step
    · intro w' hw K hK
      obtain ⟨c0, c1, c2⟩ := HC.out w' hw
      go_simp
      exact hK
    · exact ⟨_, rfl, Nat.le_of_ble_eq_true rfl⟩
    · exact ⟨_, h0J⟩
    apply grow_step
    · intro w' hw K hK
      go_simp
      exact hK
    · exact ⟨_, rfl, Nat.le_of_ble_eq_true rfl⟩
    · exact ⟨_, h0J⟩
    refine grow_call (fun w' hw => (HL8.out w').mono fun e w'' ⟨he, hb⟩ => ⟨he, hw.trans (hb.mono hw.size)⟩) (by simp [Region.wanted]) (fun w' hw => by go_simp) ?_
    simp only [Act.put, List.setIfInBounds_toArray, List.set_cons_succ, List.set_cons_zero]
    apply grow_step
    · intro w' hw K hK
      go_simp
      exact hK
    · exact ⟨_, rfl, Nat.le_of_ble_eq_true rfl⟩
    · exact ⟨_, h0J⟩
    apply grow_step
    · intro w' hw K hK
      obtain ⟨c0, c1, c2⟩ := HC.out w' hw
      go_simp
      exact hK
    · exact ⟨_, rfl, Nat.le_of_ble_eq_true rfl⟩
    · exact ⟨_, h0J⟩
    apply grow_step
    · intro w' hw K hK
      obtain ⟨c0, c1, c2⟩ := HC.out w' hw
      go_simp
      exact hK
    · exact ⟨_, rfl, Nat.le_of_ble_eq_true rfl⟩
    · exact ⟨_, h0J⟩
    apply grow_step
    · intro w' hw K hK
      go_simp
      exact hK
    · exact ⟨_, rfl, Nat.le_of_ble_eq_true rfl⟩
    · exact ⟨_, h0J⟩
    apply grow_step
    · intro w' hw K hK
      go_simp
      exact hK
    · exact ⟨_, rfl, Nat.le_of_ble_eq_true rfl⟩
    · exact ⟨_, h0J⟩
    refine grow_call (fun w' hw => (HLN.out w').mono fun e w'' ⟨he, hb⟩ => ⟨he, hw.trans (hb.mono hw.size)⟩) (by simp [Region.wanted]) (fun w' hw => by go_simp) ?_
    simp only [Act.put, List.setIfInBounds_toArray, List.set_cons_succ, List.set_cons_zero]
    apply grow_step
    · intro w' hw K hK
      go_simp
      exact hK
    · exact ⟨_, rfl, Nat.le_of_ble_eq_true rfl⟩
    · exact ⟨_, h0J⟩
    apply grow_step
    · intro w' hw K hK
      go_simp
      exact hK
    · exact ⟨_, rfl, Nat.le_of_ble_eq_true rfl⟩
    · exact ⟨_, h0J⟩
    refine grow_nil ?_
    intro w7 hw7
    have HW7 := Lib.hid hw7
    clear hw7
    go_wp2_with fail
    go_loopw [4, 5] (fun s i wr => ∃ j : Nat, j ≤ n ∧ i = .int .i64 j ∧ s = .string (S j) ∧ Below u.heap.size u wr) (fun _ i _ => n - (intOf i).toNat)
    case atStart => exact ⟨0, Nat.zero_le _, rfl, by rw [HS0.out], HW7.out⟩
    case round =>
      obtain ⟨j, hj, rfl, rfl, hb⟩ := hrel
      have HBR := Lib.hid hb
      obtain ⟨c0, c1, c2⟩ := HC.out _ hb
      clear hb
      by_cases hlt : j < n
      · have hjl : j < ts.length := by rw [← HN.out]; exact hlt
        obtain ⟨b, off, rfl, hbB, hc⟩ := (HX.out.below HBR.out) (by omega)
        obtain ⟨x, hx⟩ : ∃ x, x = ts[j] := ⟨_, rfl⟩
        have hgx : ts[j]? = some x := by rw [hx]; exact List.getElem?_eq_getElem hjl
        obtain ⟨X, hX1, hX2, hX3, hX4⟩ := HSN.out j x hgx
        obtain ⟨xn, rfl, hxn⟩ := HXN.out x (by rw [hx]; exact List.getElem_mem hjl)
        have hcx := hc j _ hgx
        have hjI : (j : Int) < (n : Int) := by omega
        have HLX := Lib.hid hX3
        have HX4 := Lib.hid hX4
        have hwr : IntKind.u64.wrap (xn : Int) = (xn : Int) := IntWalk.u64_in _ (by omega)
        clear hc hx hgx hjl hX3 hX4
        go_wp2_with fail
        refine (HLX.out _).mono ?_
        rintro e w8 ⟨rfl, hb8⟩
        have HB8 := Lib.hid (HBR.out.trans (hb8.mono HBR.out.size))
        clear hb8
        go_wp2_with fail
        go_roundw
        case rel => exact ⟨j + 1, by omega, by go_num, by rw [HX4.out], HB8.out⟩
        case measure => simp [intOf]; omega
      · obtain rfl : j = n := by omega
        go_wp2_with fail
        refine (HSEAL.out _).mono ?_
        rintro e w8 ⟨rfl, hb8⟩
        have HB8 := Lib.hid (HBR.out.trans (hb8.mono HBR.out.size))
        clear hb8
        go_wp2_with fail
        go_ret
        exact ⟨rfl, HBU.out.trans (HB8.out.mono HBU.out.size)⟩
  | false =>
    have HL2 : Hid (∀ W, Calls Tryz.prog 48 #[.int .u64 0, .int .i64 1] W fun e w' => e = .returned (.string L2) ∧ Below W.heap.size W w') := HL2'
    clear HL2'
    go_enter Tryz.func14, Tryz.ntmps14
    go_upto_region 4 with fail
    rw [← HU.out]
    refine wp_region_grow (Below u.heap.size u) (by kernel_rfl) (by kernel_rfl) h0J ?_
    refine grow_call (fun w' hw => (HL1.out w').mono fun e w'' ⟨he, hb⟩ => ⟨he, hw.trans (hb.mono hw.size)⟩) (by simp [Region.wanted]) (fun w' hw => by go_simp) ?_
    simp only [Act.put, List.setIfInBounds_toArray, List.set_cons_succ, List.set_cons_zero]
    apply grow_step
    · intro w' hw K hK
      go_simp
      exact hK
    · exact ⟨_, rfl, Nat.le_of_ble_eq_true rfl⟩
    · exact ⟨_, h0J⟩
    refine grow_call (fun w' hw => (HL2.out w').mono fun e w'' ⟨he, hb⟩ => ⟨he, hw.trans (hb.mono hw.size)⟩) (by simp [Region.wanted]) (fun w' hw => by go_simp) ?_
    simp only [Act.put, List.setIfInBounds_toArray, List.set_cons_succ, List.set_cons_zero]
    apply grow_step
    · intro w' hw K hK
      go_simp
      exact hK
    · exact ⟨_, rfl, Nat.le_of_ble_eq_true rfl⟩
    · exact ⟨_, h0J⟩
    apply grow_step
    · intro w' hw K hK
      obtain ⟨c0, c1, c2⟩ := HC.out w' hw
      go_simp
      exact hK
    · exact ⟨_, rfl, Nat.le_of_ble_eq_true rfl⟩
    · exact ⟨_, h0J⟩
    apply grow_step
    · intro w' hw K hK
      obtain ⟨c0, c1, c2⟩ := HC.out w' hw
      go_simp
      exact hK
    · exact ⟨_, rfl, Nat.le_of_ble_eq_true rfl⟩
    · exact ⟨_, h0J⟩
    apply grow_step
    · intro w' hw K hK
      go_simp
      exact hK
    · exact ⟨_, rfl, Nat.le_of_ble_eq_true rfl⟩
    · exact ⟨_, h0J⟩
    refine grow_call (fun w' hw => (HL8.out w').mono fun e w'' ⟨he, hb⟩ => ⟨he, hw.trans (hb.mono hw.size)⟩) (by simp [Region.wanted]) (fun w' hw => by go_simp) ?_
    simp only [Act.put, List.setIfInBounds_toArray, List.set_cons_succ, List.set_cons_zero]
    apply grow_step
    · intro w' hw K hK
      go_simp
      exact hK
    · exact ⟨_, rfl, Nat.le_of_ble_eq_true rfl⟩
    · exact ⟨_, h0J⟩
    apply grow_step
    · intro w' hw K hK
      obtain ⟨c0, c1, c2⟩ := HC.out w' hw
      go_simp
      exact hK
    · exact ⟨_, rfl, Nat.le_of_ble_eq_true rfl⟩
    · exact ⟨_, h0J⟩
    apply grow_step
    · intro w' hw K hK
      obtain ⟨c0, c1, c2⟩ := HC.out w' hw
      go_simp
      exact hK
    · exact ⟨_, rfl, Nat.le_of_ble_eq_true rfl⟩
    · exact ⟨_, h0J⟩
    apply grow_step
    · intro w' hw K hK
      go_simp
      exact hK
    · exact ⟨_, rfl, Nat.le_of_ble_eq_true rfl⟩
    · exact ⟨_, h0J⟩
    apply grow_step
    · intro w' hw K hK
      go_simp
      exact hK
    · exact ⟨_, rfl, Nat.le_of_ble_eq_true rfl⟩
    · exact ⟨_, h0J⟩
    refine grow_call (fun w' hw => (HLN.out w').mono fun e w'' ⟨he, hb⟩ => ⟨he, hw.trans (hb.mono hw.size)⟩) (by simp [Region.wanted]) (fun w' hw => by go_simp) ?_
    simp only [Act.put, List.setIfInBounds_toArray, List.set_cons_succ, List.set_cons_zero]
    apply grow_step
    · intro w' hw K hK
      go_simp
      exact hK
    · exact ⟨_, rfl, Nat.le_of_ble_eq_true rfl⟩
    · exact ⟨_, h0J⟩
    apply grow_step
    · intro w' hw K hK
      go_simp
      exact hK
    · exact ⟨_, rfl, Nat.le_of_ble_eq_true rfl⟩
    · exact ⟨_, h0J⟩
    refine grow_nil ?_
    intro w7 hw7
    have HW7 := Lib.hid hw7
    clear hw7
    go_wp2_with fail
    go_loopw [4, 5] (fun s i wr => ∃ j : Nat, j ≤ n ∧ i = .int .i64 j ∧ s = .string (S j) ∧ Below u.heap.size u wr) (fun _ i _ => n - (intOf i).toNat)
    case atStart => exact ⟨0, Nat.zero_le _, rfl, by rw [HS0.out], HW7.out⟩
    case round =>
      obtain ⟨j, hj, rfl, rfl, hb⟩ := hrel
      have HBR := Lib.hid hb
      obtain ⟨c0, c1, c2⟩ := HC.out _ hb
      clear hb
      by_cases hlt : j < n
      · have hjl : j < ts.length := by rw [← HN.out]; exact hlt
        obtain ⟨b, off, rfl, hbB, hc⟩ := (HX.out.below HBR.out) (by omega)
        obtain ⟨x, hx⟩ : ∃ x, x = ts[j] := ⟨_, rfl⟩
        have hgx : ts[j]? = some x := by rw [hx]; exact List.getElem?_eq_getElem hjl
        obtain ⟨X, hX1, hX2, hX3, hX4⟩ := HSN.out j x hgx
        obtain ⟨xn, rfl, hxn⟩ := HXN.out x (by rw [hx]; exact List.getElem_mem hjl)
        have hcx := hc j _ hgx
        have hjI : (j : Int) < (n : Int) := by omega
        have HLX := Lib.hid hX3
        have HX4 := Lib.hid hX4
        have hwr : IntKind.u64.wrap (xn : Int) = (xn : Int) := IntWalk.u64_in _ (by omega)
        clear hc hx hgx hjl hX3 hX4
        go_wp2_with fail
        refine (HLX.out _).mono ?_
        rintro e w8 ⟨rfl, hb8⟩
        have HB8 := Lib.hid (HBR.out.trans (hb8.mono HBR.out.size))
        clear hb8
        go_wp2_with fail
        go_roundw
        case rel => exact ⟨j + 1, by omega, by go_num, by rw [HX4.out], HB8.out⟩
        case measure => simp [intOf]; omega
      · obtain rfl : j = n := by omega
        go_wp2_with fail
        refine (HSEAL.out _).mono ?_
        rintro e w8 ⟨rfl, hb8⟩
        have HB8 := Lib.hid (HBR.out.trans (hb8.mono HBR.out.size))
        clear hb8
        go_wp2_with fail
        go_ret
        exact ⟨rfl, HBU.out.trans (HB8.out.mono HBU.out.size)⟩
end Go.Proofs.YtnpmeolibdjgpaaGreatDoor

namespace Go.Proofs.YtnpmeolibdjgpaaGreatDoor
open Go.RowKit

/-- A number at its place. -/
def lowAt (l : List UInt8) (a k : Nat) : Nat := low ((l.drop a).take k)
def refN (l : List UInt8) : Nat := lowAt l 10 2
def refS (l : List UInt8) : Nat := lowAt l 2 8
def refT (l : List UInt8) (n : Nat) : List Int := (List.range n).map fun j => ((lowAt l (12 + 2 * j) 2 : Nat) : Int)
def refHD (l : List UInt8) : HD := ⟨(refS l : Int), lowAt l 1 1 != 0, refT l (refN l)⟩
/-- What the document's ReadHead answers. -/
def refRead (b : List UInt8) : HD × Int :=
  if b.length ≠ 256 then (HD.zero, 5)
  else if b.all (· == 0) then (HD.zero, 0)
  else if (openB b).2 ≠ 0 then (HD.zero, (openB b).2)
  else if 110 < refN (openB b).1 ∨ 1099511627776 < refS (openB b).1 then (HD.zero, 6)
  else if (refHD (openB b).1).validB = true ∧ (refHD (openB b).1).text = b then (refHD (openB b).1, 0) else (HD.zero, 6)

theorem lowAt_here (p : List UInt8) (k n : Nat) (r : List UInt8) (a : Nat) (ha : p.length = a) (hn : n < 256 ^ k) : lowAt (p ++ (lowBytes k n ++ r)) a k = n := by
  unfold lowAt
  rw [← ha, List.drop_left, List.take_left' (lowBytes_length k n), low_lowBytes, Nat.mod_eq_of_lt hn]
theorem all_split (ts : List Int) : ∀ j x, ts[j]? = some x → ∃ p r, allBytes 2 ts = p ++ (lowBytes 2 x.toNat ++ r) ∧ p.length = 2 * j := by
  induction ts with
  | nil => intro j x h; cases h
  | cons y r ih =>
    intro j x h
    cases j with
    | zero =>
      injection h with h
      subst h
      exact ⟨[], _, by rw [allBytes_cons]; rfl, rfl⟩
    | succ j =>
      obtain ⟨p, q, h1, h2⟩ := ih j x (by simpa using h)
      exact ⟨lowBytes 2 y.toNat ++ p, q, by rw [allBytes_cons, h1]; simp only [List.append_assoc], by rw [List.length_append, lowBytes_length, h2]; omega⟩
theorem refT_back {l p z : List UInt8} {ts : List Int} (hl : l = p ++ (allBytes 2 ts ++ z)) (hp : p.length = 12) (hr : ∀ x ∈ ts, 0 ≤ x ∧ x < 2000) : refT l ts.length = ts := by
  apply List.ext_getElem?
  intro j
  unfold refT
  rw [List.getElem?_map]
  rcases Nat.lt_or_ge j ts.length with h | h
  · rw [List.getElem?_range h, List.getElem?_eq_getElem h]
    have hx := hr ts[j] (List.getElem_mem h)
    obtain ⟨q, r, h1, h2⟩ := all_split ts j ts[j] (List.getElem?_eq_getElem h)
    have e : l = (p ++ q) ++ (lowBytes 2 (ts[j]).toNat ++ (r ++ z)) := by rw [hl, h1]; simp only [List.append_assoc]
    rw [e]
    simp only [Option.map_some]
    rw [lowAt_here (p ++ q) 2 _ _ (12 + 2 * j) (by rw [List.length_append, hp, h2]) (by omega)]
    congr 1
    omega
  · rw [List.getElem?_eq_none (by simpa using h), List.getElem?_eq_none h]
    rfl
theorem ref_back {h : HD} (hv : h.Valid) : refHD (body 256 h.bytes) = h ∧ refN (body 256 h.bytes) = h.ts.length ∧ (refS (body 256 h.bytes) : Int) = h.seq := by
  obtain ⟨z, hz⟩ := body_eq h
  obtain ⟨l, hl⟩ : ∃ l, l = body 256 h.bytes := ⟨_, rfl⟩
  rw [← hl] at hz ⊢
  have hsq := hv.seq
  have hfew := hv.few
  have e1 : lowAt l 1 1 = bitN h.full := by
    rw [hz]
    exact lowAt_here (lowBytes 1 7) 1 _ _ 1 (lowBytes_length _ _) (by have := bitN_lt h.full; omega)
  have e2 : refS l = h.seq.toNat := by
    unfold refS
    rw [hz, ← List.append_assoc]
    exact lowAt_here _ 8 _ _ 2 (by rw [List.length_append, lowBytes_length, lowBytes_length]) (by omega)
  have e3 : refN l = h.ts.length := by
    unfold refN
    rw [hz, ← List.append_assoc, ← List.append_assoc]
    exact lowAt_here _ 2 _ _ 10 (by simp only [List.length_append, lowBytes_length]) (by omega)
  have e4 : refT l h.ts.length = h.ts := refT_back (p := lowBytes 1 7 ++ (lowBytes 1 (bitN h.full) ++ (lowBytes 8 h.seq.toNat ++ lowBytes 2 h.ts.length))) (z := z) (by rw [hz]; simp only [List.append_assoc]) (by simp only [List.length_append, lowBytes_length]) hv.range
  refine ⟨?_, e3, by rw [e2]; omega⟩
  unfold refHD
  rw [e1, e2, e3, e4]
  obtain ⟨seq, full, ts⟩ := h
  simp only at hsq ⊢
  congr 1
  · omega
  · cases full <;> rfl
theorem numsL_back : ∀ (j : Nat) (ts : List Int) (z : List UInt8), (∀ x ∈ ts, 0 ≤ x ∧ x < 2000) → j ≤ ts.length → numsL ⟨bs (allBytes 2 ts ++ z), 0⟩ j = (ts.take j, ⟨bs (allBytes 2 (ts.drop j) ++ z), 0⟩)
  | 0, ts, z, _, _ => rfl
  | j + 1, ts, z, hr, hj => by
    have hjl : j < ts.length := by omega
    have hx := hr ts[j] (List.getElem_mem hjl)
    obtain ⟨xn, hxn⟩ : ∃ n : Nat, ts[j] = (n : Int) := ⟨ts[j].toNat, by omega⟩
    unfold numsL
    rw [numsL_back j ts z hr (by omega)]
    simp only
    rw [List.drop_eq_getElem_cons hjl, allBytes_cons, List.append_assoc, hxn, Int.toNat_natCast, num_bs 2 xn _ (by omega) (by omega), List.take_succ_eq_append_getElem hjl, hxn]
theorem parse_of {Y : ByteArray} {f : Int} {sq n : Nat} {R1 R2 R3 R4 : Rd} {ts : List Int} {m : Int} (N1 : (Rd.mk Y 0).num 1 = (m, R1)) (N2 : R1.num 1 = (f, R2)) (N3 : R2.num 8 = ((sq : Int), R3)) (N4 : R3.num 2 = ((n : Int), R4)) (hn : n ≤ 110) (hl : (numsL R4 n).1 = ts) : parseHD Y = ⟨(sq : Int), f != 0, ts⟩ := by
  have P1 : parsR1 Y = R1 := by unfold parsR1; rw [N1]
  have P2 : parsR2 Y = R2 := by unfold parsR2; rw [P1, N2]
  have P3 : parsR3 Y = R3 := by unfold parsR3; rw [P2, N3]
  have P4 : parsR4 Y = R4 := by unfold parsR4; rw [P3, N4]
  have P5 : parsN Y = n := by unfold parsN; rw [P3, N4]; show (min (n : Int) 110).toNat = n; omega
  unfold parseHD
  rw [P4, P5, P2, P1, N3, N2, hl]
theorem parse_back {h : HD} (hv : h.Valid) : parseHD (bs (body 256 h.bytes)) = h := by
  obtain ⟨z, hz⟩ := body_eq h
  obtain ⟨seq, full, ts⟩ := h
  have hsq := hv.seq
  have hfew := hv.few
  have hr := hv.range
  simp only at hsq hfew hr hz
  obtain ⟨sq, rfl⟩ : ∃ n : Nat, seq = (n : Int) := ⟨seq.toNat, by omega⟩
  rw [Int.toNat_natCast] at hz
  have hb := bitN_lt full
  obtain ⟨Y, hY⟩ : ∃ Y, Y = body 256 (HD.mk sq full ts).bytes := ⟨_, rfl⟩
  rw [← hY] at hz ⊢
  have N1 := num_bs 1 7 (lowBytes 1 (bitN full) ++ (lowBytes 8 sq ++ (lowBytes 2 ts.length ++ (allBytes 2 ts ++ z)))) (by decide) (by decide)
  rw [← hz] at N1
  have N2 := num_bs 1 (bitN full) (lowBytes 8 sq ++ (lowBytes 2 ts.length ++ (allBytes 2 ts ++ z))) (by omega) (by omega)
  have N3 := num_bs 8 sq (lowBytes 2 ts.length ++ (allBytes 2 ts ++ z)) (by omega) (by omega)
  have N4 := num_bs 2 ts.length (allBytes 2 ts ++ z) (by omega) (by omega)
  have hl : (numsL ⟨bs (allBytes 2 ts ++ z), 0⟩ ts.length).1 = ts := by rw [numsL_back _ _ _ hr (Nat.le_refl _), List.take_length]
  rw [parse_of N1 N2 N3 N4 hfew hl]
  cases full <;> rfl
theorem refRead_eq (b : List UInt8) : refRead b = readHD b := by
  unfold refRead readHD
  by_cases h1 : b.length ≠ 256
  · rw [if_pos h1, if_pos h1]
  · rw [if_neg h1, if_neg h1]
    by_cases h2 : b.all (· == 0) = true
    · rw [if_pos h2, if_pos h2]
    · rw [if_neg h2, if_neg h2]
      by_cases h3 : (openB b).2 ≠ 0
      · rw [if_pos h3, if_pos h3]
      · rw [if_neg h3, if_neg h3]
        have key : ∀ h : HD, h.validB = true → h.text = b → parseHD (bs (openB b).1) = h ∧ refHD (openB b).1 = h ∧ refN (openB b).1 = h.ts.length ∧ (refS (openB b).1 : Int) = h.seq := fun h hv ht => by
          have hV := HD.valid_of hv
          have ho : (openB b).1 = body 256 h.bytes := by rw [← ht, HD.opened]
          rw [ho]
          exact ⟨parse_back hV, ref_back hV⟩
        by_cases h4 : (parseHD (bs (openB b).1)).validB = true ∧ (parseHD (bs (openB b).1)).text = b
        · obtain ⟨k1, k2, k3, k4⟩ := key _ h4.1 h4.2
          have hV := HD.valid_of h4.1
          have := hV.few
          have := hV.seq
          rw [if_pos h4, if_neg (by omega), k2, if_pos h4]
        · rw [if_neg h4]
          by_cases h5 : 110 < refN (openB b).1 ∨ 1099511627776 < refS (openB b).1
          · rw [if_pos h5]
          · rw [if_neg h5, if_neg]
            intro h6
            obtain ⟨k1, k2, k3, k4⟩ := key _ h6.1 h6.2
            exact h4 (by rw [k1]; exact h6)
end Go.Proofs.YtnpmeolibdjgpaaGreatDoor

namespace Go.Proofs.YtnpmeolibdjgpaaGreatDoor
open Go.RowKit

theorem below_drewN (B : Nat) (w : World) (n : Nat) : Below B w (w.drewN n) := ⟨rfl, rfl, rfl, Nat.le_refl _, fun _ _ => rfl⟩
theorem below_more {B : Nat} {w u : World} (h : Below B w u) (n : Nat) : Below B w (u.drewN n) := h.trans (below_drewN _ _ _)
theorem validB_no (s : Int) (f : Bool) (ts : List Int) (h : ¬ (0 ≤ s ∧ s ≤ 1099511627776) ∨ (f = true ∧ ts.length = 0) ∨ (f = false ∧ 0 < ts.length) ∨ 110 < ts.length) : (HD.mk s f ts).validB = false := by
  unfold HD.validB
  simp only
  rcases h with h | ⟨rfl, h⟩ | ⟨rfl, h⟩ | h
  · rw [decide_eq_false h, Bool.false_and]
  · simp [h]
  · rw [if_neg (by simp), decide_eq_false (p := ts.length = 0) (by omega), Bool.and_false]
  · cases f
    · rw [if_neg (by simp), decide_eq_false (p := ts.length = 0) (by omega), Bool.and_false]
    · rw [if_pos rfl, decide_eq_false (p := 1 ≤ ts.length ∧ ts.length ≤ 110) (by omega), Bool.false_and, Bool.and_false]
theorem validB_in (s : Int) (f : Bool) (ts : List Int) (h : 0 ≤ s ∧ s ≤ 1099511627776) (hf : f = decide (0 < ts.length)) (hl : ts.length ≤ 110) : (HD.mk s f ts).validB = riseB 0 ts := by
  unfold HD.validB
  simp only
  rw [decide_eq_true h, Bool.true_and, hf]
  by_cases h0 : 0 < ts.length
  · rw [decide_eq_true h0, if_pos rfl, decide_eq_true (p := 1 ≤ ts.length ∧ ts.length ≤ 110) (by omega), Bool.true_and]
  · have : ts = [] := List.eq_nil_of_length_eq_zero (by omega)
    subst this
    rfl

set_option maxRecDepth 100000 in
set_option maxHeartbeats 20000000 in
theorem rvalid_any (h : HD) (A : Option Addr) (c : Nat) (w : World) (ha : h.At w A c) :
    Calls Tryz.prog 12 #[h.val A c] w fun e w' => e = .returned (.bool h.validB) ∧ Below w.heap.size w w' := by
  obtain ⟨seq, full, ts⟩ := h
  obtain ⟨hlie, hfew⟩ := ha
  simp only at hlie hfew
  obtain ⟨R, hR⟩ : ∃ R, R = (HD.mk seq full ts).validB := ⟨_, rfl⟩
  rw [← hR]
  unfold HD.val
  simp only
  obtain ⟨n, hn⟩ : ∃ n, n = ts.length := ⟨_, rfl⟩
  rw [← hn]
  obtain ⟨u, hu⟩ : ∃ u, u = w.alloc (.cells #[.int .i64 seq, .bool full, .slice A n c] 30) := ⟨_, rfl⟩
  have HB : Hid (Below w.heap.size w u) := Lib.hid (by rw [hu]; exact (Below.refl _ _).alloc (Nat.le_refl _) _)
  have bk : Blk u w.heap.size 30 #[.int .i64 seq, .bool full, .slice A n c] := by rw [hu]; exact Blk.new w _ _
  have HX : Hid (Ints u u.heap.size A ts) := Lib.hid ((hlie.below HB.out).more HB.out.size)
  have HC : Hid (∀ w', Below u.heap.size u w' → w'.cell? ⟨w.heap.size, 0, none⟩ = some (.int .i64 seq) ∧ w'.cell? ⟨w.heap.size, 1, none⟩ = some (.bool full) ∧ w'.cell? ⟨w.heap.size, 2, none⟩ = some (.slice A n c)) := Lib.hid (fun w' hw => ⟨(bk.below hw bk.lt).cell 0, (bk.below hw bk.lt).cell 1, (bk.below hw bk.lt).cell 2⟩)
  obtain ⟨c0, c1, c2⟩ := HC.out u (Below.refl _ _)
  have HU := Lib.hid hu
  have HR := Lib.hid hR
  have HN := Lib.hid hn
  have hnI : (n : Int) ≤ 1000000 := by omega
  clear hlie bk hu hR hn hfew
  go_enter Tryz.func12, Tryz.ntmps12
  go_upto_region 1 with fail
  rw [← HU.out]
  by_cases h0 : seq < 0
  · have HF : Hid (R = false) := Lib.hid (by rw [HR.out]; exact validB_no _ _ _ (.inl (by omega)))
    go_wp2_with fail
    go_ret
    rw [HF.out]
    exact ⟨rfl, HB.out⟩
  · by_cases h1 : 1099511627776 < seq
    · have HF : Hid (R = false) := Lib.hid (by rw [HR.out]; exact validB_no _ _ _ (.inl (by omega)))
      have h0' : 0 ≤ seq := by omega
      go_wp2_with fail
      go_ret
      rw [HF.out]
      exact ⟨rfl, HB.out⟩
    · have h0' : 0 ≤ seq := by omega
      have h1' : seq ≤ 1099511627776 := by omega
      by_cases h2 : full = decide (0 < n)
      · by_cases h3 : 110 < n
        · have HF : Hid (R = false) := Lib.hid (by rw [HR.out]; exact validB_no _ _ _ (.inr (.inr (.inr (by rw [← HN.out]; exact h3)))))
          obtain rfl : full = true := by rw [h2]; exact decide_eq_true (by omega)
          have h3I : (110 : Int) < (n : Int) := by omega
          have h4I : (0 : Int) < (n : Int) := by omega
          clear h2
          go_wp2_with fail
          go_ret
          rw [HF.out]
          exact ⟨rfl, HB.out⟩
        · have h3I : (n : Int) ≤ 110 := by omega
          have HF : Hid (R = riseB 0 ts) := Lib.hid (by rw [HR.out]; exact validB_in _ _ _ ⟨h0', h1'⟩ (by rw [h2, HN.out]) (by rw [← HN.out]; omega))
          have hfn : full = decide (0 < (n : Int)) := by rw [h2]; by_cases h : 0 < n <;> simp [h]
          clear h2
          by_cases hz : n = 0
          · subst hz
            obtain rfl : full = false := hfn
            have HT : Hid (R = true) := Lib.hid (by
              have : ts = [] := List.eq_nil_of_length_eq_zero HN.out.symm
              rw [HF.out, this]; rfl)
            go_wp2_with fail
            go_loopw [3] (fun i wr => i = .int .i64 0 ∧ u = wr) (fun _ _ => 0)
            case atStart => exact ⟨rfl, rfl⟩
            case round =>
              obtain ⟨rfl, rfl⟩ := hrel
              go_wp2_with fail
              go_ret
              rw [HT.out]
              exact ⟨rfl, HB.out⟩
          · have hnp : (0 : Int) < (n : Int) := by omega
            obtain rfl : full = true := by rw [hfn]; exact decide_eq_true hnp
            clear hfn
            go_wp2_with fail
            go_loopw [3] (fun i wr => ∃ (j : Nat) (least : Int), j ≤ n ∧ i = .int .i64 j ∧ 0 ≤ least ∧ (j = 0 → least = 0) ∧ (∀ k, j = k + 1 → ∃ y, ts[k]? = some y ∧ least = y + 1) ∧ R = riseB least (ts.drop j) ∧ Below u.heap.size u wr) (fun i _ => n - (intOf i).toNat)
            case atStart => exact ⟨0, 0, Nat.zero_le _, rfl, by omega, (fun _ => rfl), (fun k h => by cases h), HF.out, Below.refl _ _⟩
            case round =>
              obtain ⟨j, least, hj, rfl, l0, hzero, hprev, hq, hbr⟩ := hrel
              have HBR := Lib.hid hbr
              have HZ := Lib.hid hzero
              have HQ := Lib.hid hq
              have HP := Lib.hid hprev
              obtain ⟨c0, c1, c2⟩ := HC.out _ hbr
              clear hq hprev hzero hbr
              by_cases hlt : j < n
              · have hjl : j < ts.length := by rw [← HN.out]; exact hlt
                obtain ⟨b, off, rfl, hbB, -⟩ := HX.out (by omega)
                have HCELL : Hid (∀ w', Below u.heap.size u w' → ∀ (i : Nat) (x : Int), ts[i]? = some x → w'.cell? ⟨b, off + i, none⟩ = some (.int .i64 x)) := Lib.hid (fun w' hw i x hx => by
                  obtain ⟨b', off', e, _, hc⟩ := (HX.out.below hw) (by omega)
                  injection e with e
                  injection e with e1 e2 _
                  subst e1
                  subst e2
                  exact hc i x hx)
                obtain ⟨x, hx⟩ : ∃ x, x = ts[j] := ⟨_, rfl⟩
                have hgx : ts[j]? = some x := by rw [hx]; exact List.getElem?_eq_getElem hjl
                have HCX : Hid (∀ w', Below u.heap.size u w' → w'.cell? ⟨b, off + j, none⟩ = some (.int .i64 x)) := Lib.hid (fun w' hw => HCELL.out w' hw j x hgx)
                have hdrop : ts.drop j = x :: ts.drop (j + 1) := by rw [List.drop_eq_getElem_cons hjl, hx]
                have hjI : (j : Int) < (n : Int) := by omega
                have HGX := Lib.hid hgx
                have HDR : Hid (R = riseB least (x :: ts.drop (j + 1))) := Lib.hid (by rw [HQ.out, hdrop])
                clear hgx hx hdrop hjl
                go_upto_region 6 with fail
                have h0J := HBR.out.drew
                by_cases g1 : x < 0
                · have HF : Hid (R = false) := Lib.hid (by rw [HDR.out]; simp [riseB]; omega)
                  refine wp_region_grow (Below u.heap.size u) (by kernel_rfl) (by kernel_rfl) h0J ?_
                  apply grow_step
                  · intro w' hw K hK
                    go_simp
                    exact hK
                  · exact ⟨_, rfl, Nat.le_of_ble_eq_true rfl⟩
                  · exact ⟨_, h0J⟩
                  apply grow_step
                  · intro w' hw K hK
                    obtain ⟨c0, c1, c2⟩ := HC.out w' hw
                    go_simp
                    exact hK
                  · exact ⟨_, rfl, Nat.le_of_ble_eq_true rfl⟩
                  · exact ⟨_, h0J⟩
                  apply grow_step
                  · intro w' hw K hK
                    go_simp
                    exact hK
                  · exact ⟨_, rfl, Nat.le_of_ble_eq_true rfl⟩
                  · exact ⟨_, h0J⟩
                  apply grow_step
                  · intro w' hw K hK
                    go_simp
                    exact hK
                  · exact ⟨_, rfl, Nat.le_of_ble_eq_true rfl⟩
                  · exact ⟨_, h0J⟩
                  apply grow_step
                  · intro w' hw K hK
                    have hcx := HCX.out w' hw
                    go_simp
                    exact hK
                  · exact ⟨_, rfl, Nat.le_of_ble_eq_true rfl⟩
                  · exact ⟨_, h0J⟩
                  apply grow_step
                  · intro w' hw K hK
                    go_simp
                    exact hK
                  · exact ⟨_, rfl, Nat.le_of_ble_eq_true rfl⟩
                  · exact ⟨_, h0J⟩
                  apply grow_step
                  · intro w' hw K hK
                    go_simp
                    exact hK
                  · exact ⟨_, rfl, Nat.le_of_ble_eq_true rfl⟩
                  · exact ⟨_, h0J⟩
                  apply grow_step
                  · intro w' hw K hK
                    go_simp
                    exact hK
                  · exact ⟨_, rfl, Nat.le_of_ble_eq_true rfl⟩
                  · exact ⟨_, h0J⟩
                  apply grow_step
                  · intro w' hw K hK
                    obtain ⟨c0, c1, c2⟩ := HC.out w' hw
                    go_simp
                    exact hK
                  · exact ⟨_, rfl, Nat.le_of_ble_eq_true rfl⟩
                  · exact ⟨_, h0J⟩
                  apply grow_step
                  · intro w' hw K hK
                    go_simp
                    exact hK
                  · exact ⟨_, rfl, Nat.le_of_ble_eq_true rfl⟩
                  · exact ⟨_, h0J⟩
                  apply grow_step
                  · intro w' hw K hK
                    go_simp
                    exact hK
                  · exact ⟨_, rfl, Nat.le_of_ble_eq_true rfl⟩
                  · exact ⟨_, h0J⟩
                  apply grow_step
                  · intro w' hw K hK
                    have hcx := HCX.out w' hw
                    go_simp
                    exact hK
                  · exact ⟨_, rfl, Nat.le_of_ble_eq_true rfl⟩
                  · exact ⟨_, h0J⟩
                  apply grow_step
                  · intro w' hw K hK
                    go_simp
                    exact hK
                  · exact ⟨_, rfl, Nat.le_of_ble_eq_true rfl⟩
                  · exact ⟨_, h0J⟩
                  apply grow_step
                  · intro w' hw K hK
                    go_simp
                    exact hK
                  · exact ⟨_, rfl, Nat.le_of_ble_eq_true rfl⟩
                  · exact ⟨_, h0J⟩
                  apply grow_step
                  · intro w' hw K hK
                    go_simp
                    exact hK
                  · exact ⟨_, rfl, Nat.le_of_ble_eq_true rfl⟩
                  · exact ⟨_, h0J⟩
                  apply grow_step
                  · intro w' hw K hK
                    go_simp
                    exact hK
                  · exact ⟨_, rfl, Nat.le_of_ble_eq_true rfl⟩
                  · exact ⟨_, h0J⟩
                  apply grow_step
                  · intro w' hw K hK
                    go_simp
                    exact hK
                  · exact ⟨_, rfl, Nat.le_of_ble_eq_true rfl⟩
                  · exact ⟨_, h0J⟩
                  apply grow_step
                  · intro w' hw K hK
                    go_simp
                    exact hK
                  · exact ⟨_, rfl, Nat.le_of_ble_eq_true rfl⟩
                  · exact ⟨_, h0J⟩
                  apply grow_step
                  · intro w' hw K hK
                    go_simp
                    exact hK
                  · exact ⟨_, rfl, Nat.le_of_ble_eq_true rfl⟩
                  · exact ⟨_, h0J⟩
                  apply grow_step
                  · intro w' hw K hK
                    obtain ⟨c0, c1, c2⟩ := HC.out w' hw
                    go_simp
                    exact hK
                  · exact ⟨_, rfl, Nat.le_of_ble_eq_true rfl⟩
                  · exact ⟨_, h0J⟩
                  apply grow_step
                  · intro w' hw K hK
                    go_simp
                    exact hK
                  · exact ⟨_, rfl, Nat.le_of_ble_eq_true rfl⟩
                  · exact ⟨_, h0J⟩
                  apply grow_step
                  · intro w' hw K hK
                    go_simp
                    exact hK
                  · exact ⟨_, rfl, Nat.le_of_ble_eq_true rfl⟩
                  · exact ⟨_, h0J⟩
                  apply grow_step
                  · intro w' hw K hK
                    go_simp
                    exact hK
                  · exact ⟨_, rfl, Nat.le_of_ble_eq_true rfl⟩
                  · exact ⟨_, h0J⟩
                  apply grow_step
                  · intro w' hw K hK
                    go_simp
                    exact hK
                  · exact ⟨_, rfl, Nat.le_of_ble_eq_true rfl⟩
                  · exact ⟨_, h0J⟩
                  apply grow_step
                  · intro w' hw K hK
                    go_simp
                    exact hK
                  · exact ⟨_, rfl, Nat.le_of_ble_eq_true rfl⟩
                  · exact ⟨_, h0J⟩
                  apply grow_step
                  · intro w' hw K hK
                    obtain ⟨c0, c1, c2⟩ := HC.out w' hw
                    go_simp
                    exact hK
                  · exact ⟨_, rfl, Nat.le_of_ble_eq_true rfl⟩
                  · exact ⟨_, h0J⟩
                  apply grow_step
                  · intro w' hw K hK
                    go_simp
                    exact hK
                  · exact ⟨_, rfl, Nat.le_of_ble_eq_true rfl⟩
                  · exact ⟨_, h0J⟩
                  apply grow_step
                  · intro w' hw K hK
                    go_simp
                    exact hK
                  · exact ⟨_, rfl, Nat.le_of_ble_eq_true rfl⟩
                  · exact ⟨_, h0J⟩
                  apply grow_step
                  · intro w' hw K hK
                    have hcx := HCX.out w' hw
                    go_simp
                    exact hK
                  · exact ⟨_, rfl, Nat.le_of_ble_eq_true rfl⟩
                  · exact ⟨_, h0J⟩
                  apply grow_step
                  · intro w' hw K hK
                    go_simp
                    exact hK
                  · exact ⟨_, rfl, Nat.le_of_ble_eq_true rfl⟩
                  · exact ⟨_, h0J⟩
                  apply grow_step
                  · intro w' hw K hK
                    go_simp
                    exact hK
                  · exact ⟨_, rfl, Nat.le_of_ble_eq_true rfl⟩
                  · exact ⟨_, h0J⟩
                  apply grow_step
                  · intro w' hw K hK
                    go_simp
                    exact hK
                  · exact ⟨_, rfl, Nat.le_of_ble_eq_true rfl⟩
                  · exact ⟨_, h0J⟩
                  refine grow_nil ?_
                  intro w7 hw7
                  have HW7 := Lib.hid hw7
                  clear hw7
                  go_wp2_with fail
                  go_ret
                  rw [HF.out]
                  exact ⟨rfl, HB.out.trans (HW7.out.mono HB.out.size)⟩
                · have g1' : 0 ≤ x := by omega
                  by_cases g2 : 2000 ≤ x
                  · have HF : Hid (R = false) := Lib.hid (by rw [HDR.out]; simp [riseB]; omega)
                    refine wp_region_grow (Below u.heap.size u) (by kernel_rfl) (by kernel_rfl) h0J ?_
                    apply grow_step
                    · intro w' hw K hK
                      go_simp
                      exact hK
                    · exact ⟨_, rfl, Nat.le_of_ble_eq_true rfl⟩
                    · exact ⟨_, h0J⟩
                    apply grow_step
                    · intro w' hw K hK
                      obtain ⟨c0, c1, c2⟩ := HC.out w' hw
                      go_simp
                      exact hK
                    · exact ⟨_, rfl, Nat.le_of_ble_eq_true rfl⟩
                    · exact ⟨_, h0J⟩
                    apply grow_step
                    · intro w' hw K hK
                      go_simp
                      exact hK
                    · exact ⟨_, rfl, Nat.le_of_ble_eq_true rfl⟩
                    · exact ⟨_, h0J⟩
                    apply grow_step
                    · intro w' hw K hK
                      go_simp
                      exact hK
                    · exact ⟨_, rfl, Nat.le_of_ble_eq_true rfl⟩
                    · exact ⟨_, h0J⟩
                    apply grow_step
                    · intro w' hw K hK
                      have hcx := HCX.out w' hw
                      go_simp
                      exact hK
                    · exact ⟨_, rfl, Nat.le_of_ble_eq_true rfl⟩
                    · exact ⟨_, h0J⟩
                    apply grow_step
                    · intro w' hw K hK
                      go_simp
                      exact hK
                    · exact ⟨_, rfl, Nat.le_of_ble_eq_true rfl⟩
                    · exact ⟨_, h0J⟩
                    apply grow_step
                    · intro w' hw K hK
                      go_simp
                      exact hK
                    · exact ⟨_, rfl, Nat.le_of_ble_eq_true rfl⟩
                    · exact ⟨_, h0J⟩
                    apply grow_step
                    · intro w' hw K hK
                      go_simp
                      exact hK
                    · exact ⟨_, rfl, Nat.le_of_ble_eq_true rfl⟩
                    · exact ⟨_, h0J⟩
                    apply grow_step
                    · intro w' hw K hK
                      obtain ⟨c0, c1, c2⟩ := HC.out w' hw
                      go_simp
                      exact hK
                    · exact ⟨_, rfl, Nat.le_of_ble_eq_true rfl⟩
                    · exact ⟨_, h0J⟩
                    apply grow_step
                    · intro w' hw K hK
                      go_simp
                      exact hK
                    · exact ⟨_, rfl, Nat.le_of_ble_eq_true rfl⟩
                    · exact ⟨_, h0J⟩
                    apply grow_step
                    · intro w' hw K hK
                      go_simp
                      exact hK
                    · exact ⟨_, rfl, Nat.le_of_ble_eq_true rfl⟩
                    · exact ⟨_, h0J⟩
                    apply grow_step
                    · intro w' hw K hK
                      have hcx := HCX.out w' hw
                      go_simp
                      exact hK
                    · exact ⟨_, rfl, Nat.le_of_ble_eq_true rfl⟩
                    · exact ⟨_, h0J⟩
                    apply grow_step
                    · intro w' hw K hK
                      go_simp
                      exact hK
                    · exact ⟨_, rfl, Nat.le_of_ble_eq_true rfl⟩
                    · exact ⟨_, h0J⟩
                    apply grow_step
                    · intro w' hw K hK
                      go_simp
                      exact hK
                    · exact ⟨_, rfl, Nat.le_of_ble_eq_true rfl⟩
                    · exact ⟨_, h0J⟩
                    apply grow_step
                    · intro w' hw K hK
                      go_simp
                      exact hK
                    · exact ⟨_, rfl, Nat.le_of_ble_eq_true rfl⟩
                    · exact ⟨_, h0J⟩
                    apply grow_step
                    · intro w' hw K hK
                      go_simp
                      exact hK
                    · exact ⟨_, rfl, Nat.le_of_ble_eq_true rfl⟩
                    · exact ⟨_, h0J⟩
                    apply grow_step
                    · intro w' hw K hK
                      go_simp
                      exact hK
                    · exact ⟨_, rfl, Nat.le_of_ble_eq_true rfl⟩
                    · exact ⟨_, h0J⟩
                    apply grow_step
                    · intro w' hw K hK
                      go_simp
                      exact hK
                    · exact ⟨_, rfl, Nat.le_of_ble_eq_true rfl⟩
                    · exact ⟨_, h0J⟩
                    apply grow_step
                    · intro w' hw K hK
                      go_simp
                      exact hK
                    · exact ⟨_, rfl, Nat.le_of_ble_eq_true rfl⟩
                    · exact ⟨_, h0J⟩
                    apply grow_step
                    · intro w' hw K hK
                      obtain ⟨c0, c1, c2⟩ := HC.out w' hw
                      go_simp
                      exact hK
                    · exact ⟨_, rfl, Nat.le_of_ble_eq_true rfl⟩
                    · exact ⟨_, h0J⟩
                    apply grow_step
                    · intro w' hw K hK
                      go_simp
                      exact hK
                    · exact ⟨_, rfl, Nat.le_of_ble_eq_true rfl⟩
                    · exact ⟨_, h0J⟩
                    apply grow_step
                    · intro w' hw K hK
                      go_simp
                      exact hK
                    · exact ⟨_, rfl, Nat.le_of_ble_eq_true rfl⟩
                    · exact ⟨_, h0J⟩
                    apply grow_step
                    · intro w' hw K hK
                      go_simp
                      exact hK
                    · exact ⟨_, rfl, Nat.le_of_ble_eq_true rfl⟩
                    · exact ⟨_, h0J⟩
                    apply grow_step
                    · intro w' hw K hK
                      go_simp
                      exact hK
                    · exact ⟨_, rfl, Nat.le_of_ble_eq_true rfl⟩
                    · exact ⟨_, h0J⟩
                    apply grow_step
                    · intro w' hw K hK
                      go_simp
                      exact hK
                    · exact ⟨_, rfl, Nat.le_of_ble_eq_true rfl⟩
                    · exact ⟨_, h0J⟩
                    apply grow_step
                    · intro w' hw K hK
                      obtain ⟨c0, c1, c2⟩ := HC.out w' hw
                      go_simp
                      exact hK
                    · exact ⟨_, rfl, Nat.le_of_ble_eq_true rfl⟩
                    · exact ⟨_, h0J⟩
                    apply grow_step
                    · intro w' hw K hK
                      go_simp
                      exact hK
                    · exact ⟨_, rfl, Nat.le_of_ble_eq_true rfl⟩
                    · exact ⟨_, h0J⟩
                    apply grow_step
                    · intro w' hw K hK
                      go_simp
                      exact hK
                    · exact ⟨_, rfl, Nat.le_of_ble_eq_true rfl⟩
                    · exact ⟨_, h0J⟩
                    apply grow_step
                    · intro w' hw K hK
                      have hcx := HCX.out w' hw
                      go_simp
                      exact hK
                    · exact ⟨_, rfl, Nat.le_of_ble_eq_true rfl⟩
                    · exact ⟨_, h0J⟩
                    apply grow_step
                    · intro w' hw K hK
                      go_simp
                      exact hK
                    · exact ⟨_, rfl, Nat.le_of_ble_eq_true rfl⟩
                    · exact ⟨_, h0J⟩
                    apply grow_step
                    · intro w' hw K hK
                      go_simp
                      exact hK
                    · exact ⟨_, rfl, Nat.le_of_ble_eq_true rfl⟩
                    · exact ⟨_, h0J⟩
                    apply grow_step
                    · intro w' hw K hK
                      go_simp
                      exact hK
                    · exact ⟨_, rfl, Nat.le_of_ble_eq_true rfl⟩
                    · exact ⟨_, h0J⟩
                    refine grow_nil ?_
                    intro w7 hw7
                    have HW7 := Lib.hid hw7
                    clear hw7
                    go_wp2_with fail
                    go_ret
                    rw [HF.out]
                    exact ⟨rfl, HB.out.trans (HW7.out.mono HB.out.size)⟩
                  · have g2' : x < 2000 := by omega
                    by_cases hz0 : 0 < j
                    · obtain ⟨k, hk⟩ : ∃ k, j = k + 1 := ⟨j - 1, by omega⟩
                      obtain ⟨y, hy, hl⟩ := HP.out k hk
                      have HCY : Hid (∀ w', Below u.heap.size u w' → w'.cell? ⟨b, off + k, none⟩ = some (.int .i64 y)) := Lib.hid (fun w' hw => HCELL.out w' hw k y hy)
                      have hkI : (0 : Int) < (j : Int) := by omega
                      have hk1 : (j : Int) - 1 = (k : Int) := by omega
                      have hkn : (k : Int) < (n : Int) := by omega
                      have hkw : IntKind.i64.wrap (k : Int) = (k : Int) := by rw [IntKind.wrap_i64]; omega
                      have hkn2 : k < n := by omega
                      have HK := Lib.hid hk
                      have HL := Lib.hid hl
                      clear hk hy hl
                      by_cases g3 : x ≤ y
                      · have HF : Hid (R = false) := Lib.hid (by rw [HDR.out, HL.out]; simp [riseB]; omega)
                        refine wp_region_grow (Below u.heap.size u) (by kernel_rfl) (by kernel_rfl) h0J ?_
                        apply grow_step
                        · intro w' hw K hK
                          go_simp
                          exact hK
                        · exact ⟨_, rfl, Nat.le_of_ble_eq_true rfl⟩
                        · exact ⟨_, h0J⟩
                        apply grow_step
                        · intro w' hw K hK
                          obtain ⟨c0, c1, c2⟩ := HC.out w' hw
                          go_simp
                          exact hK
                        · exact ⟨_, rfl, Nat.le_of_ble_eq_true rfl⟩
                        · exact ⟨_, h0J⟩
                        apply grow_step
                        · intro w' hw K hK
                          go_simp
                          exact hK
                        · exact ⟨_, rfl, Nat.le_of_ble_eq_true rfl⟩
                        · exact ⟨_, h0J⟩
                        apply grow_step
                        · intro w' hw K hK
                          go_simp
                          exact hK
                        · exact ⟨_, rfl, Nat.le_of_ble_eq_true rfl⟩
                        · exact ⟨_, h0J⟩
                        apply grow_step
                        · intro w' hw K hK
                          have hcx := HCX.out w' hw
                          go_simp
                          exact hK
                        · exact ⟨_, rfl, Nat.le_of_ble_eq_true rfl⟩
                        · exact ⟨_, h0J⟩
                        apply grow_step
                        · intro w' hw K hK
                          go_simp
                          exact hK
                        · exact ⟨_, rfl, Nat.le_of_ble_eq_true rfl⟩
                        · exact ⟨_, h0J⟩
                        apply grow_step
                        · intro w' hw K hK
                          go_simp
                          exact hK
                        · exact ⟨_, rfl, Nat.le_of_ble_eq_true rfl⟩
                        · exact ⟨_, h0J⟩
                        apply grow_step
                        · intro w' hw K hK
                          go_simp
                          exact hK
                        · exact ⟨_, rfl, Nat.le_of_ble_eq_true rfl⟩
                        · exact ⟨_, h0J⟩
                        apply grow_step
                        · intro w' hw K hK
                          obtain ⟨c0, c1, c2⟩ := HC.out w' hw
                          go_simp
                          exact hK
                        · exact ⟨_, rfl, Nat.le_of_ble_eq_true rfl⟩
                        · exact ⟨_, h0J⟩
                        apply grow_step
                        · intro w' hw K hK
                          go_simp
                          exact hK
                        · exact ⟨_, rfl, Nat.le_of_ble_eq_true rfl⟩
                        · exact ⟨_, h0J⟩
                        apply grow_step
                        · intro w' hw K hK
                          go_simp
                          exact hK
                        · exact ⟨_, rfl, Nat.le_of_ble_eq_true rfl⟩
                        · exact ⟨_, h0J⟩
                        apply grow_step
                        · intro w' hw K hK
                          have hcx := HCX.out w' hw
                          go_simp
                          exact hK
                        · exact ⟨_, rfl, Nat.le_of_ble_eq_true rfl⟩
                        · exact ⟨_, h0J⟩
                        apply grow_step
                        · intro w' hw K hK
                          go_simp
                          exact hK
                        · exact ⟨_, rfl, Nat.le_of_ble_eq_true rfl⟩
                        · exact ⟨_, h0J⟩
                        apply grow_step
                        · intro w' hw K hK
                          go_simp
                          exact hK
                        · exact ⟨_, rfl, Nat.le_of_ble_eq_true rfl⟩
                        · exact ⟨_, h0J⟩
                        apply grow_step
                        · intro w' hw K hK
                          go_simp
                          exact hK
                        · exact ⟨_, rfl, Nat.le_of_ble_eq_true rfl⟩
                        · exact ⟨_, h0J⟩
                        apply grow_step
                        · intro w' hw K hK
                          go_simp
                          exact hK
                        · exact ⟨_, rfl, Nat.le_of_ble_eq_true rfl⟩
                        · exact ⟨_, h0J⟩
                        apply grow_step
                        · intro w' hw K hK
                          go_simp
                          exact hK
                        · exact ⟨_, rfl, Nat.le_of_ble_eq_true rfl⟩
                        · exact ⟨_, h0J⟩
                        apply grow_step
                        · intro w' hw K hK
                          go_simp
                          exact hK
                        · exact ⟨_, rfl, Nat.le_of_ble_eq_true rfl⟩
                        · exact ⟨_, h0J⟩
                        apply grow_step
                        · intro w' hw K hK
                          go_simp
                          exact hK
                        · exact ⟨_, rfl, Nat.le_of_ble_eq_true rfl⟩
                        · exact ⟨_, h0J⟩
                        apply grow_step
                        · intro w' hw K hK
                          obtain ⟨c0, c1, c2⟩ := HC.out w' hw
                          go_simp
                          exact hK
                        · exact ⟨_, rfl, Nat.le_of_ble_eq_true rfl⟩
                        · exact ⟨_, h0J⟩
                        apply grow_step
                        · intro w' hw K hK
                          go_simp
                          exact hK
                        · exact ⟨_, rfl, Nat.le_of_ble_eq_true rfl⟩
                        · exact ⟨_, h0J⟩
                        apply grow_step
                        · intro w' hw K hK
                          go_simp
                          exact hK
                        · exact ⟨_, rfl, Nat.le_of_ble_eq_true rfl⟩
                        · exact ⟨_, h0J⟩
                        apply grow_step
                        · intro w' hw K hK
                          go_simp
                          exact hK
                        · exact ⟨_, rfl, Nat.le_of_ble_eq_true rfl⟩
                        · exact ⟨_, h0J⟩
                        apply grow_step
                        · intro w' hw K hK
                          have hcy := HCY.out w' hw
                          go_simp
                          exact hK
                        · exact ⟨_, rfl, Nat.le_of_ble_eq_true rfl⟩
                        · exact ⟨_, h0J⟩
                        apply grow_step
                        · intro w' hw K hK
                          go_simp
                          exact hK
                        · exact ⟨_, rfl, Nat.le_of_ble_eq_true rfl⟩
                        · exact ⟨_, h0J⟩
                        apply grow_step
                        · intro w' hw K hK
                          obtain ⟨c0, c1, c2⟩ := HC.out w' hw
                          go_simp
                          exact hK
                        · exact ⟨_, rfl, Nat.le_of_ble_eq_true rfl⟩
                        · exact ⟨_, h0J⟩
                        apply grow_step
                        · intro w' hw K hK
                          go_simp
                          exact hK
                        · exact ⟨_, rfl, Nat.le_of_ble_eq_true rfl⟩
                        · exact ⟨_, h0J⟩
                        apply grow_step
                        · intro w' hw K hK
                          go_simp
                          exact hK
                        · exact ⟨_, rfl, Nat.le_of_ble_eq_true rfl⟩
                        · exact ⟨_, h0J⟩
                        apply grow_step
                        · intro w' hw K hK
                          have hcx := HCX.out w' hw
                          go_simp
                          exact hK
                        · exact ⟨_, rfl, Nat.le_of_ble_eq_true rfl⟩
                        · exact ⟨_, h0J⟩
                        apply grow_step
                        · intro w' hw K hK
                          go_simp
                          exact hK
                        · exact ⟨_, rfl, Nat.le_of_ble_eq_true rfl⟩
                        · exact ⟨_, h0J⟩
                        apply grow_step
                        · intro w' hw K hK
                          go_simp
                          exact hK
                        · exact ⟨_, rfl, Nat.le_of_ble_eq_true rfl⟩
                        · exact ⟨_, h0J⟩
                        apply grow_step
                        · intro w' hw K hK
                          go_simp
                          exact hK
                        · exact ⟨_, rfl, Nat.le_of_ble_eq_true rfl⟩
                        · exact ⟨_, h0J⟩
                        refine grow_nil ?_
                        intro w7 hw7
                        have HW7 := Lib.hid hw7
                        clear hw7
                        go_wp2_with fail
                        go_ret
                        rw [HF.out]
                        exact ⟨rfl, HB.out.trans (HW7.out.mono HB.out.size)⟩
                      · have g3' : y < x := by omega
                        have HS : Hid (R = riseB (x + 1) (ts.drop (j + 1))) := Lib.hid (by rw [HDR.out, HL.out]; simp [riseB, g2']; omega)
                        have hlen : j + 1 ≤ n := hlt
                        refine wp_region_grow (Below u.heap.size u) (by kernel_rfl) (by kernel_rfl) h0J ?_
                        apply grow_step
                        · intro w' hw K hK
                          go_simp
                          exact hK
                        · exact ⟨_, rfl, Nat.le_of_ble_eq_true rfl⟩
                        · exact ⟨_, h0J⟩
                        apply grow_step
                        · intro w' hw K hK
                          obtain ⟨c0, c1, c2⟩ := HC.out w' hw
                          go_simp
                          exact hK
                        · exact ⟨_, rfl, Nat.le_of_ble_eq_true rfl⟩
                        · exact ⟨_, h0J⟩
                        apply grow_step
                        · intro w' hw K hK
                          go_simp
                          exact hK
                        · exact ⟨_, rfl, Nat.le_of_ble_eq_true rfl⟩
                        · exact ⟨_, h0J⟩
                        apply grow_step
                        · intro w' hw K hK
                          go_simp
                          exact hK
                        · exact ⟨_, rfl, Nat.le_of_ble_eq_true rfl⟩
                        · exact ⟨_, h0J⟩
                        apply grow_step
                        · intro w' hw K hK
                          have hcx := HCX.out w' hw
                          go_simp
                          exact hK
                        · exact ⟨_, rfl, Nat.le_of_ble_eq_true rfl⟩
                        · exact ⟨_, h0J⟩
                        apply grow_step
                        · intro w' hw K hK
                          go_simp
                          exact hK
                        · exact ⟨_, rfl, Nat.le_of_ble_eq_true rfl⟩
                        · exact ⟨_, h0J⟩
                        apply grow_step
                        · intro w' hw K hK
                          go_simp
                          exact hK
                        · exact ⟨_, rfl, Nat.le_of_ble_eq_true rfl⟩
                        · exact ⟨_, h0J⟩
                        apply grow_step
                        · intro w' hw K hK
                          go_simp
                          exact hK
                        · exact ⟨_, rfl, Nat.le_of_ble_eq_true rfl⟩
                        · exact ⟨_, h0J⟩
                        apply grow_step
                        · intro w' hw K hK
                          obtain ⟨c0, c1, c2⟩ := HC.out w' hw
                          go_simp
                          exact hK
                        · exact ⟨_, rfl, Nat.le_of_ble_eq_true rfl⟩
                        · exact ⟨_, h0J⟩
                        apply grow_step
                        · intro w' hw K hK
                          go_simp
                          exact hK
                        · exact ⟨_, rfl, Nat.le_of_ble_eq_true rfl⟩
                        · exact ⟨_, h0J⟩
                        apply grow_step
                        · intro w' hw K hK
                          go_simp
                          exact hK
                        · exact ⟨_, rfl, Nat.le_of_ble_eq_true rfl⟩
                        · exact ⟨_, h0J⟩
                        apply grow_step
                        · intro w' hw K hK
                          have hcx := HCX.out w' hw
                          go_simp
                          exact hK
                        · exact ⟨_, rfl, Nat.le_of_ble_eq_true rfl⟩
                        · exact ⟨_, h0J⟩
                        apply grow_step
                        · intro w' hw K hK
                          go_simp
                          exact hK
                        · exact ⟨_, rfl, Nat.le_of_ble_eq_true rfl⟩
                        · exact ⟨_, h0J⟩
                        apply grow_step
                        · intro w' hw K hK
                          go_simp
                          exact hK
                        · exact ⟨_, rfl, Nat.le_of_ble_eq_true rfl⟩
                        · exact ⟨_, h0J⟩
                        apply grow_step
                        · intro w' hw K hK
                          go_simp
                          exact hK
                        · exact ⟨_, rfl, Nat.le_of_ble_eq_true rfl⟩
                        · exact ⟨_, h0J⟩
                        apply grow_step
                        · intro w' hw K hK
                          go_simp
                          exact hK
                        · exact ⟨_, rfl, Nat.le_of_ble_eq_true rfl⟩
                        · exact ⟨_, h0J⟩
                        apply grow_step
                        · intro w' hw K hK
                          go_simp
                          exact hK
                        · exact ⟨_, rfl, Nat.le_of_ble_eq_true rfl⟩
                        · exact ⟨_, h0J⟩
                        apply grow_step
                        · intro w' hw K hK
                          go_simp
                          exact hK
                        · exact ⟨_, rfl, Nat.le_of_ble_eq_true rfl⟩
                        · exact ⟨_, h0J⟩
                        apply grow_step
                        · intro w' hw K hK
                          go_simp
                          exact hK
                        · exact ⟨_, rfl, Nat.le_of_ble_eq_true rfl⟩
                        · exact ⟨_, h0J⟩
                        apply grow_step
                        · intro w' hw K hK
                          obtain ⟨c0, c1, c2⟩ := HC.out w' hw
                          go_simp
                          exact hK
                        · exact ⟨_, rfl, Nat.le_of_ble_eq_true rfl⟩
                        · exact ⟨_, h0J⟩
                        apply grow_step
                        · intro w' hw K hK
                          go_simp
                          exact hK
                        · exact ⟨_, rfl, Nat.le_of_ble_eq_true rfl⟩
                        · exact ⟨_, h0J⟩
                        apply grow_step
                        · intro w' hw K hK
                          go_simp
                          exact hK
                        · exact ⟨_, rfl, Nat.le_of_ble_eq_true rfl⟩
                        · exact ⟨_, h0J⟩
                        apply grow_step
                        · intro w' hw K hK
                          go_simp
                          exact hK
                        · exact ⟨_, rfl, Nat.le_of_ble_eq_true rfl⟩
                        · exact ⟨_, h0J⟩
                        apply grow_step
                        · intro w' hw K hK
                          have hcy := HCY.out w' hw
                          go_simp
                          exact hK
                        · exact ⟨_, rfl, Nat.le_of_ble_eq_true rfl⟩
                        · exact ⟨_, h0J⟩
                        apply grow_step
                        · intro w' hw K hK
                          go_simp
                          exact hK
                        · exact ⟨_, rfl, Nat.le_of_ble_eq_true rfl⟩
                        · exact ⟨_, h0J⟩
                        apply grow_step
                        · intro w' hw K hK
                          obtain ⟨c0, c1, c2⟩ := HC.out w' hw
                          go_simp
                          exact hK
                        · exact ⟨_, rfl, Nat.le_of_ble_eq_true rfl⟩
                        · exact ⟨_, h0J⟩
                        apply grow_step
                        · intro w' hw K hK
                          go_simp
                          exact hK
                        · exact ⟨_, rfl, Nat.le_of_ble_eq_true rfl⟩
                        · exact ⟨_, h0J⟩
                        apply grow_step
                        · intro w' hw K hK
                          go_simp
                          exact hK
                        · exact ⟨_, rfl, Nat.le_of_ble_eq_true rfl⟩
                        · exact ⟨_, h0J⟩
                        apply grow_step
                        · intro w' hw K hK
                          have hcx := HCX.out w' hw
                          go_simp
                          exact hK
                        · exact ⟨_, rfl, Nat.le_of_ble_eq_true rfl⟩
                        · exact ⟨_, h0J⟩
                        apply grow_step
                        · intro w' hw K hK
                          go_simp
                          exact hK
                        · exact ⟨_, rfl, Nat.le_of_ble_eq_true rfl⟩
                        · exact ⟨_, h0J⟩
                        apply grow_step
                        · intro w' hw K hK
                          go_simp
                          exact hK
                        · exact ⟨_, rfl, Nat.le_of_ble_eq_true rfl⟩
                        · exact ⟨_, h0J⟩
                        apply grow_step
                        · intro w' hw K hK
                          go_simp
                          exact hK
                        · exact ⟨_, rfl, Nat.le_of_ble_eq_true rfl⟩
                        · exact ⟨_, h0J⟩
                        refine grow_nil ?_
                        intro w7 hw7
                        have HW7 := Lib.hid hw7
                        clear hw7
                        go_wp2_with fail
                        go_roundw
                        case rel => exact ⟨j + 1, x + 1, hlen, by go_num, by omega, (fun h => by omega), (fun k' h => ⟨x, by rw [show k' = j by omega]; exact HGX.out, rfl⟩), HS.out, HW7.out⟩
                        case measure => simp [intOf]; omega
                    · have hzI : ¬ (0 : Int) < (j : Int) := by omega
                      have HS : Hid (R = riseB (x + 1) (ts.drop (j + 1))) := Lib.hid (by rw [HDR.out, HZ.out (by omega)]; simp [riseB, g1', g2'])
                      have hlen : j + 1 ≤ n := hlt
                      refine wp_region_grow (Below u.heap.size u) (by kernel_rfl) (by kernel_rfl) h0J ?_
                      apply grow_step
                      · intro w' hw K hK
                        go_simp
                        exact hK
                      · exact ⟨_, rfl, Nat.le_of_ble_eq_true rfl⟩
                      · exact ⟨_, h0J⟩
                      apply grow_step
                      · intro w' hw K hK
                        obtain ⟨c0, c1, c2⟩ := HC.out w' hw
                        go_simp
                        exact hK
                      · exact ⟨_, rfl, Nat.le_of_ble_eq_true rfl⟩
                      · exact ⟨_, h0J⟩
                      apply grow_step
                      · intro w' hw K hK
                        go_simp
                        exact hK
                      · exact ⟨_, rfl, Nat.le_of_ble_eq_true rfl⟩
                      · exact ⟨_, h0J⟩
                      apply grow_step
                      · intro w' hw K hK
                        go_simp
                        exact hK
                      · exact ⟨_, rfl, Nat.le_of_ble_eq_true rfl⟩
                      · exact ⟨_, h0J⟩
                      apply grow_step
                      · intro w' hw K hK
                        have hcx := HCX.out w' hw
                        go_simp
                        exact hK
                      · exact ⟨_, rfl, Nat.le_of_ble_eq_true rfl⟩
                      · exact ⟨_, h0J⟩
                      apply grow_step
                      · intro w' hw K hK
                        go_simp
                        exact hK
                      · exact ⟨_, rfl, Nat.le_of_ble_eq_true rfl⟩
                      · exact ⟨_, h0J⟩
                      apply grow_step
                      · intro w' hw K hK
                        go_simp
                        exact hK
                      · exact ⟨_, rfl, Nat.le_of_ble_eq_true rfl⟩
                      · exact ⟨_, h0J⟩
                      apply grow_step
                      · intro w' hw K hK
                        go_simp
                        exact hK
                      · exact ⟨_, rfl, Nat.le_of_ble_eq_true rfl⟩
                      · exact ⟨_, h0J⟩
                      apply grow_step
                      · intro w' hw K hK
                        obtain ⟨c0, c1, c2⟩ := HC.out w' hw
                        go_simp
                        exact hK
                      · exact ⟨_, rfl, Nat.le_of_ble_eq_true rfl⟩
                      · exact ⟨_, h0J⟩
                      apply grow_step
                      · intro w' hw K hK
                        go_simp
                        exact hK
                      · exact ⟨_, rfl, Nat.le_of_ble_eq_true rfl⟩
                      · exact ⟨_, h0J⟩
                      apply grow_step
                      · intro w' hw K hK
                        go_simp
                        exact hK
                      · exact ⟨_, rfl, Nat.le_of_ble_eq_true rfl⟩
                      · exact ⟨_, h0J⟩
                      apply grow_step
                      · intro w' hw K hK
                        have hcx := HCX.out w' hw
                        go_simp
                        exact hK
                      · exact ⟨_, rfl, Nat.le_of_ble_eq_true rfl⟩
                      · exact ⟨_, h0J⟩
                      apply grow_step
                      · intro w' hw K hK
                        go_simp
                        exact hK
                      · exact ⟨_, rfl, Nat.le_of_ble_eq_true rfl⟩
                      · exact ⟨_, h0J⟩
                      apply grow_step
                      · intro w' hw K hK
                        go_simp
                        exact hK
                      · exact ⟨_, rfl, Nat.le_of_ble_eq_true rfl⟩
                      · exact ⟨_, h0J⟩
                      apply grow_step
                      · intro w' hw K hK
                        go_simp
                        exact hK
                      · exact ⟨_, rfl, Nat.le_of_ble_eq_true rfl⟩
                      · exact ⟨_, h0J⟩
                      apply grow_step
                      · intro w' hw K hK
                        go_simp
                        exact hK
                      · exact ⟨_, rfl, Nat.le_of_ble_eq_true rfl⟩
                      · exact ⟨_, h0J⟩
                      apply grow_step
                      · intro w' hw K hK
                        go_simp
                        exact hK
                      · exact ⟨_, rfl, Nat.le_of_ble_eq_true rfl⟩
                      · exact ⟨_, h0J⟩
                      apply grow_step
                      · intro w' hw K hK
                        go_simp
                        exact hK
                      · exact ⟨_, rfl, Nat.le_of_ble_eq_true rfl⟩
                      · exact ⟨_, h0J⟩
                      apply grow_step
                      · intro w' hw K hK
                        go_simp
                        exact hK
                      · exact ⟨_, rfl, Nat.le_of_ble_eq_true rfl⟩
                      · exact ⟨_, h0J⟩
                      apply grow_step
                      · intro w' hw K hK
                        obtain ⟨c0, c1, c2⟩ := HC.out w' hw
                        go_simp
                        exact hK
                      · exact ⟨_, rfl, Nat.le_of_ble_eq_true rfl⟩
                      · exact ⟨_, h0J⟩
                      apply grow_step
                      · intro w' hw K hK
                        go_simp
                        exact hK
                      · exact ⟨_, rfl, Nat.le_of_ble_eq_true rfl⟩
                      · exact ⟨_, h0J⟩
                      apply grow_step
                      · intro w' hw K hK
                        go_simp
                        exact hK
                      · exact ⟨_, rfl, Nat.le_of_ble_eq_true rfl⟩
                      · exact ⟨_, h0J⟩
                      apply grow_step
                      · intro w' hw K hK
                        go_simp
                        exact hK
                      · exact ⟨_, rfl, Nat.le_of_ble_eq_true rfl⟩
                      · exact ⟨_, h0J⟩
                      apply grow_step
                      · intro w' hw K hK
                        go_simp
                        exact hK
                      · exact ⟨_, rfl, Nat.le_of_ble_eq_true rfl⟩
                      · exact ⟨_, h0J⟩
                      apply grow_step
                      · intro w' hw K hK
                        go_simp
                        exact hK
                      · exact ⟨_, rfl, Nat.le_of_ble_eq_true rfl⟩
                      · exact ⟨_, h0J⟩
                      apply grow_step
                      · intro w' hw K hK
                        obtain ⟨c0, c1, c2⟩ := HC.out w' hw
                        go_simp
                        exact hK
                      · exact ⟨_, rfl, Nat.le_of_ble_eq_true rfl⟩
                      · exact ⟨_, h0J⟩
                      apply grow_step
                      · intro w' hw K hK
                        go_simp
                        exact hK
                      · exact ⟨_, rfl, Nat.le_of_ble_eq_true rfl⟩
                      · exact ⟨_, h0J⟩
                      apply grow_step
                      · intro w' hw K hK
                        go_simp
                        exact hK
                      · exact ⟨_, rfl, Nat.le_of_ble_eq_true rfl⟩
                      · exact ⟨_, h0J⟩
                      apply grow_step
                      · intro w' hw K hK
                        have hcx := HCX.out w' hw
                        go_simp
                        exact hK
                      · exact ⟨_, rfl, Nat.le_of_ble_eq_true rfl⟩
                      · exact ⟨_, h0J⟩
                      apply grow_step
                      · intro w' hw K hK
                        go_simp
                        exact hK
                      · exact ⟨_, rfl, Nat.le_of_ble_eq_true rfl⟩
                      · exact ⟨_, h0J⟩
                      apply grow_step
                      · intro w' hw K hK
                        go_simp
                        exact hK
                      · exact ⟨_, rfl, Nat.le_of_ble_eq_true rfl⟩
                      · exact ⟨_, h0J⟩
                      apply grow_step
                      · intro w' hw K hK
                        go_simp
                        exact hK
                      · exact ⟨_, rfl, Nat.le_of_ble_eq_true rfl⟩
                      · exact ⟨_, h0J⟩
                      refine grow_nil ?_
                      intro w7 hw7
                      have HW7 := Lib.hid hw7
                      clear hw7
                      go_wp2_with fail
                      go_roundw
                      case rel => exact ⟨j + 1, x + 1, hlen, by go_num, by omega, (fun h => by omega), (fun k' h => ⟨x, by rw [show k' = j by omega]; exact HGX.out, rfl⟩), HS.out, HW7.out⟩
                      case measure => simp [intOf]; omega
              · obtain rfl : j = n := by omega
                have HF : Hid (R = true) := Lib.hid (by rw [HQ.out, List.drop_of_length_le (by rw [HN.out]; exact Nat.le_refl _)]; rfl)
                go_wp2_with fail
                go_ret
                rw [HF.out]
                exact ⟨rfl, HB.out.trans (HBR.out.mono HB.out.size)⟩
      · have HF : Hid (R = false) := Lib.hid (by
          rw [HR.out]
          refine validB_no _ _ _ (.inr ?_)
          rw [← HN.out]
          cases full with
          | true => exact .inl ⟨rfl, by
              by_cases h : 0 < n
              · rw [decide_eq_true h] at h2; exact absurd rfl h2
              · omega⟩
          | false => exact .inr (.inl ⟨rfl, by
              by_cases h : 0 < n
              · exact h
              · rw [decide_eq_false h] at h2; exact absurd rfl h2⟩))
        cases full with
        | true =>
          have hz : n = 0 := by
            by_cases h : 0 < n
            · rw [decide_eq_true h] at h2; exact absurd rfl h2
            · omega
          subst hz
          clear h2
          go_wp2_with fail
          go_ret
          rw [HF.out]
          exact ⟨rfl, HB.out⟩
        | false =>
          have hz : 0 < n := by
            by_cases h : 0 < n
            · exact h
            · rw [decide_eq_false h] at h2; exact absurd rfl h2
          have hzI : (0 : Int) < (n : Int) := by omega
          clear h2
          go_wp2_with fail
          go_ret
          rw [HF.out]
          exact ⟨rfl, HB.out⟩
end Go.Proofs.YtnpmeolibdjgpaaGreatDoor

namespace Go.Proofs.YtnpmeolibdjgpaaGreatDoor
open Go.RowKit

theorem low_drop {x : ByteArray} {j : Nat} (hj : j < x.size) : low (x.data.toList.drop j) = (x[j]).toNat + 256 * low (x.data.toList.drop (j + 1)) := by
  have hl : j < x.data.toList.length := by rw [Array.length_toList]; exact hj
  rw [List.drop_eq_getElem_cons hl, low]
  rfl

theorem low_up (x : UInt8) (V : Nat) (hv : V < 72057594037927936) : IntKind.u64.wrap ((V : Int) * 256 + IntKind.u64.wrap (x.toNat : Int)) = ((x.toNat + 256 * V : Nat) : Int) := by
  have h := x.toNat_lt
  rw [IntWalk.u64_in (x.toNat : Int) (by omega), IntWalk.u64_in _ (by omega)]
  omega

set_option maxHeartbeats 800000 in
/-- The number of bytes, from the highest on. -/
theorem ref_low (x : ByteArray) (w : World) (hx : x.size ≤ 8) :
    Calls Tryz.prog 61 #[.string x] w fun e w' => e = .returned (.int .u64 (low x.data.toList)) ∧ w = w' := by
  go_enter Tryz.func61, Tryz.ntmps61
  go_wp2_with fail
  go_loop [3, 4] (fun v i => ∃ j : Nat, j ≤ x.size ∧ i = .int .i64 ((j : Int) - 1) ∧ v = .int .u64 (low (x.data.toList.drop j))) (fun _ i => (intOf i + 1).toNat)
  case atStart => exact ⟨x.size, Nat.le_refl _, rfl, by rw [List.drop_of_length_le (by rw [Array.length_toList]; exact Nat.le_refl _)]; rfl⟩
  case round =>
    obtain ⟨j, hj, rfl, rfl⟩ := hrel
    by_cases hlt : 0 < j
    · obtain ⟨k, rfl⟩ : ∃ k, j = k + 1 := ⟨j - 1, by omega⟩
      have hv : low (x.data.toList.drop (k + 1)) < 72057594037927936 := by
        refine Nat.lt_of_lt_of_le (low_lt _) (Nat.le_trans (Nat.pow_le_pow_right (by omega) (show _ ≤ 7 from ?_)) (by decide))
        rw [List.length_drop, Array.length_toList]
        show x.size - (k + 1) ≤ 7
        omega
      have hd := low_drop (x := x) (j := k) (by omega)
      generalize low (x.data.toList.drop (k + 1)) = V at *
      have HD := Lib.hid hd
      clear hd
      go_wp2_with fail
      go_round
      case rel => exact ⟨k, by omega, rfl, by rw [HD.out, low_up x[k] V hv]⟩
      case measure => simp [intOf] <;> omega
    · obtain rfl : j = 0 := by omega
      go_wp2_with fail
      go_ret
      exact ⟨rfl, rfl⟩

theorem raw_low (s : Rd) (k : Nat) (hk : k ≤ 8) : (s.raw k).1.size ≤ 8 := by
  unfold Rd.raw Rd.take
  split
  · simp
  · split
    · simp
    · split
      · simp
      · simp <;> omega
/-- What the reference's number is made of. -/
theorem num_raw (s : Rd) (k : Nat) : s.num k = if 9223372036854775807 < (low (s.raw k).1.data.toList : Int) then (0, ⟨.empty, 6⟩) else ((low (s.raw k).1.data.toList : Int), (s.raw k).2) := by
  unfold Rd.num Rd.raw
  by_cases h : (s.take k).2.1 = true
  · rw [if_pos h]
  · rw [if_neg h]
    have e : (s.take k).1 = .empty := by
      unfold Rd.take at h ⊢
      split
      · rfl
      · rename_i h0
        rw [if_neg h0] at h
        split
        · rfl
        · rename_i h1
          rw [if_neg h1] at h
          split
          · rfl
          · rename_i h2
            rw [if_neg h2] at h
            simp at h
    rw [e]
    simp [low]

end Go.Proofs.YtnpmeolibdjgpaaGreatDoor

namespace Go.Proofs.YtnpmeolibdjgpaaGreatDoor
open Go.RowKit

theorem rhead_var {W : World} {g : Nat} {q : Int} {f : Bool} {A : Option Addr} {n c : Nat} (hb : Blk W g 30 #[.int .i64 q, .bool f, .slice A n c]) :
    (loadVar 30 ⟨g, 0, none⟩).run Tryz.prog W = .ok (.agg #[.int .i64 q, .bool f, .slice A n c]) W :=
  run_var_part (off := 0) hb (fun j v h => by rw [Nat.zero_add]; exact h) (fun w => by kernel_rfl) (fun w => by kernel_rfl)
theorem ext_low (Y : ByteArray) (a k : Nat) : (Y.extract a (a + k)).data.toList = (Y.data.toList.drop a).take k := by
  rw [ByteArray.data_extract, Array.toList_extract, List.extract_eq_drop_take', List.drop_take, Nat.add_sub_cancel_left]
theorem one_low (Y : ByteArray) (h : 1 < Y.size) : lowAt Y.data.toList 1 1 = (Y[1]'h).toNat := by
  have hl : 1 < Y.data.toList.length := by rw [← Lib.size_eq]; exact h
  have e : Y.data.toList.drop 1 = (Y[1]'h) :: Y.data.toList.drop 2 := by rw [List.drop_eq_getElem_cons hl]; rfl
  unfold lowAt
  rw [e]
  simp [low]
theorem int_ne (k : Nat) : ((k : Int) != 0) = (k != 0) := by
  rw [Bool.eq_iff_iff]
  simp
theorem rnum_at (Y : ByteArray) (a e k : Nat) (he : e = a + k) (hk : k ≤ 8) (W : World) :
    Calls Tryz.prog 61 #[.string (Y.extract a e)] W fun e w' => e = .returned (.int .u64 (lowAt Y.data.toList a k : Int)) ∧ W = w' := by
  subst he
  have := ref_low (Y.extract a (a + k)) W (by simp; omega)
  rw [ext_low] at this
  exact this

set_option maxRecDepth 100000 in
set_option maxHeartbeats 8000000 in
theorem rread_own (X : ByteArray) (w : World) :
    Calls Tryz.prog 16 #[.string X] w fun e w' => ∃ A c, e = .returned (.tuple #[(refRead X.data.toList).1.val A c, .int .i64 (refRead X.data.toList).2]) ∧ w'.ownsRow w.heap.size 3 1 (.slice A (refRead X.data.toList).1.ts.length c) (refRead X.data.toList).1.ts.length ((refRead X.data.toList).1.ts.map (Value.int .i64)) ∧ (refRead X.data.toList).1.ts.length ≤ 110 ∧ Below w.heap.size w w' := by
  have hlen : X.data.toList.length = X.size := (Lib.size_eq X).symm
  obtain ⟨Q, hQ⟩ : ∃ Q, Q = refRead X.data.toList := ⟨_, rfl⟩
  rw [← hQ]
  have R0 : Blk (w.alloc (.cells #[.int .i64 0, .bool false, .slice none 0 0] 30)) w.heap.size 30 #[.int .i64 0, .bool false, .slice none 0 0] := Blk.new w _ _
  have B0 : Below w.heap.size w (w.alloc (.cells #[.int .i64 0, .bool false, .slice none 0 0] 30)) := (Below.refl _ _).alloc (Nat.le_refl _) _
  have HR0 := Lib.hid R0
  have HB0 := Lib.hid B0
  clear R0 B0
  by_cases h1 : X.size = 256
  · have hXI : (X.size : Int) = 256 := by omega
    obtain ⟨Z, hZ⟩ : ∃ Z : ByteArray, Z = zeroB 256 := ⟨_, rfl⟩
    have hZe : (X.toList == Z.toList) = X.data.toList.all (· == 0) := by
      rw [hZ, Lib.toList_data, Lib.toList_data, zeroB_list]
      rw [Bool.eq_iff_iff, beq_iff_eq, List.all_eq_true]
      constructor
      · intro h x hx
        rw [h] at hx
        rw [(List.mem_replicate.1 hx).2]
        rfl
      · intro h
        rw [List.eq_replicate_iff]
        exact ⟨by omega, fun x hx => by simpa using h x hx⟩
    have HZ : Hid (∀ W, Calls Tryz.prog 28 #[.int .i64 256] W fun e w' => e = .returned (.string Z) ∧ Below W.heap.size W w') := Lib.hid (fun W => by rw [hZ]; exact ref_zeros 256 W (by omega))
    by_cases h2 : X.data.toList.all (· == 0) = true
    · have E : Q = (HD.zero, 0) := by rw [hQ]; unfold refRead; rw [if_neg (by omega), if_pos h2]
      subst E
      rw [h2] at hZe
      clear hQ hlen hZ h2
      go_enter Tryz.func16, Tryz.ntmps16
      go_wp2_with fail
      refine (HZ.out _).mono ?_
      rintro e w1 ⟨rfl, hb1⟩
      have HR1 := Lib.hid (HR0.out.below hb1 HR0.out.lt)
      have HB1 := Lib.hid (HB0.out.trans (hb1.mono HB0.out.size))
      clear hb1
      have r0 := HR1.out.cell 0
      have r1 := HR1.out.cell 1
      have r2 := HR1.out.cell 2
      have f0 := HR1.out.frozen 0
      have f1 := HR1.out.frozen 1
      have f2 := HR1.out.frozen 2
      simp at r0 r1 r2
      go_wp2_with fail
      have b3 := ((HR1.out.put 0 (.int .i64 0)).put 1 (.bool false)).put 2 (.slice none 0 0)
      refine hret_cell2 rfl rfl (rhead_var b3) rfl rfl ?_
      exact ⟨none, 0, rfl, World.ownsRow_nil _ _ _ _, by decide, ((HB1.out.setCell (Nat.le_refl _) _).setCell (Nat.le_refl _) _).setCell (Nat.le_refl _) _⟩
    · have h2' : X.data.toList.all (· == 0) = false := by simpa using h2
      rw [h2'] at hZe
      obtain ⟨O, hO⟩ : ∃ O, O = openB X.data.toList := ⟨_, rfl⟩
      obtain ⟨Y, hY⟩ : ∃ Y : ByteArray, Y = ⟨O.1.toArray⟩ := ⟨_, rfl⟩
      have HOPEN : Hid (∀ W, Calls Tryz.prog 60 #[.string X] W fun e w' => e = .returned (.tuple #[.string Y, .int .i64 O.2]) ∧ Below W.heap.size W w') := Lib.hid (fun W => by
        have h1 := ref_open X W (by omega)
        have e : openV X.data.toList = .tuple #[.string Y, .int .i64 O.2] := by unfold openV; rw [← hO, hY]
        rwa [e] at h1)
      by_cases h3 : O.2 = 0
      · have hYl : Y.data.toList = O.1 := by rw [hY]
        have hYs : Y.size = 252 := by
          rw [Lib.size_eq, hYl, hO]
          rw [hO] at h3
          unfold openB at h3 ⊢
          rw [if_neg (by omega)] at h3 ⊢
          split at h3
          · rename_i h
            rw [if_pos h, List.length_take]
            omega
          · cases h3
        obtain ⟨n, hn⟩ : ∃ n, n = refN O.1 := ⟨_, rfl⟩
        obtain ⟨sn, hsn⟩ : ∃ n, n = refS O.1 := ⟨_, rfl⟩
        have hn0 : n < 65536 := by rw [hn]; exact Nat.lt_of_lt_of_le (low_lt _) (Nat.pow_le_pow_right (by omega) (by rw [List.length_take]; omega) : _ ≤ 256 ^ 2)
        have hsn0 : sn < 18446744073709551616 := by rw [hsn]; exact Nat.lt_of_lt_of_le (low_lt _) (Nat.pow_le_pow_right (by omega) (by rw [List.length_take]; omega) : _ ≤ 256 ^ 8)
        have HNN : Hid (∀ W, Calls Tryz.prog 61 #[.string (Y.extract 10 12)] W fun e w' => e = .returned (.int .u64 (n : Int)) ∧ W = w') := Lib.hid (fun W => by
          have := rnum_at Y 10 12 2 rfl (by omega) W
          rw [hYl] at this
          rw [hn]
          exact this)
        have HNS : Hid (∀ W, Calls Tryz.prog 61 #[.string (Y.extract 2 10)] W fun e w' => e = .returned (.int .u64 (sn : Int)) ∧ W = w') := Lib.hid (fun W => by
          have := rnum_at Y 2 10 8 rfl (by omega) W
          rw [hYl] at this
          rw [hsn]
          exact this)
        have hwn : IntKind.i64.wrap (n : Int) = (n : Int) := by rw [IntKind.wrap_i64]; omega
        have h1Y : 1 < Y.size := by omega
        obtain ⟨fb, hfb⟩ : ∃ fb : Bool, fb = (lowAt O.1 1 1 != 0) := ⟨_, rfl⟩
        have hfb1 : (((Y[1]'h1Y).toNat : Int) != 0) = fb := by rw [hfb, int_ne, ← one_low Y h1Y, hYl]
        have hYI : (Y.size : Int) = 252 := by omega
        have E : Q = if 110 < n ∨ 1099511627776 < sn then (HD.zero, 6) else if (refHD O.1).validB = true ∧ (refHD O.1).text = X.data.toList then (refHD O.1, 0) else (HD.zero, 6) := by rw [hQ]; unfold refRead; rw [if_neg (by omega), if_neg h2, ← hO, if_neg (by omega), ← hn, ← hsn]
        have HYL := Lib.hid hYl
        have HFB := Lib.hid hfb
        have HN := Lib.hid hn
        have HSN := Lib.hid hsn
        rw [h3] at HOPEN
        have HLEN := Lib.hid hlen
        by_cases h5 : 110 < n
        · rw [if_pos (.inl h5)] at E
          subst E
          have h5I : (110 : Int) < (n : Int) := by omega
          clear hQ hlen hZ h2 h2' hO hY hYl hfb hn hsn
          go_enter Tryz.func16, Tryz.ntmps16
          go_wp2_with fail
          refine (HZ.out _).mono ?_
          rintro e w1 ⟨rfl, hb1⟩
          have HR1 := Lib.hid (HR0.out.below hb1 HR0.out.lt)
          have HB1 := Lib.hid (HB0.out.trans (hb1.mono HB0.out.size))
          clear hb1
          go_wp2_with fail
          refine (HOPEN.out _).mono ?_
          rintro e w2 ⟨rfl, hb2⟩
          have HR2 := Lib.hid (HR1.out.below hb2 HR1.out.lt)
          have HB2 := Lib.hid (HB1.out.trans (hb2.mono HB1.out.size))
          clear hb2
          go_upto_region 9 with fail
          have hb3 : Below w.heap.size w (w2.alloc (.cells #[.int .i64 0, .bool fb, .slice none 0 0] 30)) := HB2.out.alloc HB2.out.size _
          have hr3 : Blk (w2.alloc (.cells #[.int .i64 0, .bool fb, .slice none 0 0] 30)) w.heap.size 30 #[.int .i64 0, .bool false, .slice none 0 0] := HR2.out.below ((Below.refl _ _).alloc (Nat.le_refl _) _) HR2.out.lt
          have hh3 : Blk (w2.alloc (.cells #[.int .i64 0, .bool fb, .slice none 0 0] 30)) w2.heap.size 30 #[.int .i64 0, .bool fb, .slice none 0 0] := Blk.new w2 _ _
          obtain ⟨w3, hw3⟩ : ∃ w3, w3 = w2.alloc (.cells #[.int .i64 0, .bool fb, .slice none 0 0] 30) := ⟨_, rfl⟩
          obtain ⟨h6, hh6⟩ : ∃ h6, h6 = w2.heap.size := ⟨_, rfl⟩
          rw [← hw3] at hb3 hr3 hh3 ⊢
          rw [← hh6] at hh3 ⊢
          have HLT : Hid (w.heap.size < h6) := Lib.hid (by rw [hh6]; exact HR2.out.lt)
          have HB3 := Lib.hid hb3
          have HR3 := Lib.hid hr3
          have HH3 := Lib.hid hh3
          have c0 := hh3.cell 0
          have c1 := hh3.cell 1
          have c2 := hh3.cell 2
          have d0 := hh3.frozen 0
          have r0 := hr3.cell 0
          have r1 := hr3.cell 1
          have r2 := hr3.cell 2
          have f0 := hr3.frozen 0
          have f1 := hr3.frozen 1
          have f2 := hr3.frozen 2
          simp at c0 c1 c2 r0 r1 r2
          clear hb3 hr3 hh3 hw3 hh6
          go_wp2_with fail
          refine (HNN.out _).mono ?_
          rintro e w4 ⟨rfl, rfl⟩
          go_wp2_with fail
          have b3 := ((HR3.out.put 0 (.int .i64 0)).put 1 (.bool false)).put 2 (.slice none 0 0)
          refine hret_cell2 rfl rfl (rhead_var b3) rfl rfl ?_
          exact ⟨none, 0, rfl, World.ownsRow_nil _ _ _ _, by decide, ((HB3.out.setCell (Nat.le_refl _) _).setCell (Nat.le_refl _) _).setCell (Nat.le_refl _) _⟩
        · have h5' : n ≤ 110 := by omega
          have h5I : (n : Int) ≤ 110 := by omega
          by_cases h6' : 1099511627776 < sn
          · rw [if_pos (.inr h6')] at E
            subst E
            have h6I : (1099511627776 : Int) < (sn : Int) := by omega
            clear hQ hlen hZ h2 h2' hO hY hYl hfb hn hsn
            go_enter Tryz.func16, Tryz.ntmps16
            go_wp2_with fail
            refine (HZ.out _).mono ?_
            rintro e w1 ⟨rfl, hb1⟩
            have HR1 := Lib.hid (HR0.out.below hb1 HR0.out.lt)
            have HB1 := Lib.hid (HB0.out.trans (hb1.mono HB0.out.size))
            clear hb1
            go_wp2_with fail
            refine (HOPEN.out _).mono ?_
            rintro e w2 ⟨rfl, hb2⟩
            have HR2 := Lib.hid (HR1.out.below hb2 HR1.out.lt)
            have HB2 := Lib.hid (HB1.out.trans (hb2.mono HB1.out.size))
            clear hb2
            go_upto_region 9 with fail
            have hb3 : Below w.heap.size w (w2.alloc (.cells #[.int .i64 0, .bool fb, .slice none 0 0] 30)) := HB2.out.alloc HB2.out.size _
            have hr3 : Blk (w2.alloc (.cells #[.int .i64 0, .bool fb, .slice none 0 0] 30)) w.heap.size 30 #[.int .i64 0, .bool false, .slice none 0 0] := HR2.out.below ((Below.refl _ _).alloc (Nat.le_refl _) _) HR2.out.lt
            have hh3 : Blk (w2.alloc (.cells #[.int .i64 0, .bool fb, .slice none 0 0] 30)) w2.heap.size 30 #[.int .i64 0, .bool fb, .slice none 0 0] := Blk.new w2 _ _
            obtain ⟨w3, hw3⟩ : ∃ w3, w3 = w2.alloc (.cells #[.int .i64 0, .bool fb, .slice none 0 0] 30) := ⟨_, rfl⟩
            obtain ⟨h6, hh6⟩ : ∃ h6, h6 = w2.heap.size := ⟨_, rfl⟩
            rw [← hw3] at hb3 hr3 hh3 ⊢
            rw [← hh6] at hh3 ⊢
            have HLT : Hid (w.heap.size < h6) := Lib.hid (by rw [hh6]; exact HR2.out.lt)
            have HB3 := Lib.hid hb3
            have HR3 := Lib.hid hr3
            have HH3 := Lib.hid hh3
            have c0 := hh3.cell 0
            have c1 := hh3.cell 1
            have c2 := hh3.cell 2
            have d0 := hh3.frozen 0
            have r0 := hr3.cell 0
            have r1 := hr3.cell 1
            have r2 := hr3.cell 2
            have f0 := hr3.frozen 0
            have f1 := hr3.frozen 1
            have f2 := hr3.frozen 2
            simp at c0 c1 c2 r0 r1 r2
            clear hb3 hr3 hh3 hw3 hh6
            go_wp2_with fail
            refine (HNN.out _).mono ?_
            rintro e w4 ⟨rfl, rfl⟩
            go_wp2_with fail
            refine (HNS.out _).mono ?_
            rintro e w4 ⟨rfl, rfl⟩
            go_wp2_with fail
            have b3 := ((HR3.out.put 0 (.int .i64 0)).put 1 (.bool false)).put 2 (.slice none 0 0)
            refine hret_cell2 rfl rfl (rhead_var b3) rfl rfl ?_
            exact ⟨none, 0, rfl, World.ownsRow_nil _ _ _ _, by decide, ((HB3.out.setCell (Nat.le_refl _) _).setCell (Nat.le_refl _) _).setCell (Nat.le_refl _) _⟩
          · rw [if_neg (by omega)] at E
            have h6I : (sn : Int) ≤ 1099511627776 := by omega
            have hws : IntKind.i64.wrap (sn : Int) = (sn : Int) := by rw [IntKind.wrap_i64]; omega
            have HE := Lib.hid E
            clear hQ hlen hZ h2 h2' hO hY hYl hfb hn hsn E
            go_enter Tryz.func16, Tryz.ntmps16
            go_wp2_with fail
            refine (HZ.out _).mono ?_
            rintro e w1 ⟨rfl, hb1⟩
            have HR1 := Lib.hid (HR0.out.below hb1 HR0.out.lt)
            have HB1 := Lib.hid (HB0.out.trans (hb1.mono HB0.out.size))
            clear hb1
            go_wp2_with fail
            refine (HOPEN.out _).mono ?_
            rintro e w2 ⟨rfl, hb2⟩
            have HR2 := Lib.hid (HR1.out.below hb2 HR1.out.lt)
            have HB2 := Lib.hid (HB1.out.trans (hb2.mono HB1.out.size))
            clear hb2
            go_upto_region 9 with fail
            have hb3 : Below w.heap.size w (w2.alloc (.cells #[.int .i64 0, .bool fb, .slice none 0 0] 30)) := HB2.out.alloc HB2.out.size _
            have hr3 : Blk (w2.alloc (.cells #[.int .i64 0, .bool fb, .slice none 0 0] 30)) w.heap.size 30 #[.int .i64 0, .bool false, .slice none 0 0] := HR2.out.below ((Below.refl _ _).alloc (Nat.le_refl _) _) HR2.out.lt
            have hh3 : Blk (w2.alloc (.cells #[.int .i64 0, .bool fb, .slice none 0 0] 30)) w2.heap.size 30 #[.int .i64 0, .bool fb, .slice none 0 0] := Blk.new w2 _ _
            obtain ⟨w3, hw3⟩ : ∃ w3, w3 = w2.alloc (.cells #[.int .i64 0, .bool fb, .slice none 0 0] 30) := ⟨_, rfl⟩
            obtain ⟨h6, hh6⟩ : ∃ h6, h6 = w2.heap.size := ⟨_, rfl⟩
            rw [← hw3] at hb3 hr3 hh3 ⊢
            rw [← hh6] at hh3 ⊢
            have HLT : Hid (w.heap.size < h6) := Lib.hid (by rw [hh6]; exact HR2.out.lt)
            have HB3 := Lib.hid hb3
            have HR3 := Lib.hid hr3
            have HH3 := Lib.hid hh3
            have c0 := hh3.cell 0
            have c1 := hh3.cell 1
            have c2 := hh3.cell 2
            have d0 := hh3.frozen 0
            have r0 := hr3.cell 0
            have r1 := hr3.cell 1
            have r2 := hr3.cell 2
            have f0 := hr3.frozen 0
            have f1 := hr3.frozen 1
            have f2 := hr3.frozen 2
            simp at c0 c1 c2 r0 r1 r2
            clear hb3 hr3 hh3 hw3 hh6
            go_wp2_with fail
            refine (HNN.out _).mono ?_
            rintro e w4 ⟨rfl, rfl⟩
            go_wp2_with fail
            refine (HNS.out _).mono ?_
            rintro e w4 ⟨rfl, rfl⟩
            go_wp2_with fail
            refine (HNS.out _).mono ?_
            rintro e w4 ⟨rfl, rfl⟩
            go_upto_region 13 with fail
            have hh4 := HH3.out.put 0 (.int .i64 (sn : Int))
            have hr4 : Blk (w3.setCell ⟨h6, 0, none⟩ (.int .i64 (sn : Int))) w.heap.size 30 #[.int .i64 0, .bool false, .slice none 0 0] := Blk.far HR3.out (fun e => by have e : w.heap.size = h6 := e; have := HLT.out; omega) _
            have hb4 : Below w.heap.size w (w3.setCell ⟨h6, 0, none⟩ (.int .i64 (sn : Int))) := HB3.out.setCell (by have := HLT.out; show w.heap.size ≤ h6; omega) _
            obtain ⟨w4, hw4⟩ : ∃ w4, w4 = w3.setCell ⟨h6, 0, none⟩ (.int .i64 (sn : Int)) := ⟨_, rfl⟩
            rw [← hw4] at hh4 hr4 hb4 ⊢
            have HH4 : Hid (Blk w4 h6 30 #[.int .i64 (sn : Int), .bool fb, .slice none 0 0]) := Lib.hid hh4
            have HR4 := Lib.hid hr4
            have HB4 := Lib.hid hb4
            clear hh4 hr4 hb4 hw4 c0 c1 c2 d0 r0 r1 r2 f0 f1 f2 HH3 HR3 HB3 HR2 HB2 HR1 HB1
            go_wp2_with fail
            go_loopw [8] (fun i wr => ∃ (j : Nat) (v : Value), j ≤ n ∧ i = .int .i64 j ∧ Blk wr h6 30 #[.int .i64 (sn : Int), .bool fb, v] ∧ wr.ownsRow w.heap.size 3 1 v j ((refT O.1 j).map (Value.int .i64)) ∧ v.ownBlock ≠ some h6 ∧ v.ownBlock ≠ some w.heap.size ∧ Blk wr w.heap.size 30 #[.int .i64 0, .bool false, .slice none 0 0] ∧ Below w.heap.size w wr) (fun i _ => n - (intOf i).toNat)
            case atStart => exact ⟨0, .slice none 0 0, Nat.zero_le _, rfl, HH4.out, World.ownsRow_nil _ _ _ _, by simp [Value.ownBlock], by simp [Value.ownBlock], HR4.out, HB4.out⟩
            case round =>
              obtain ⟨j, v, hj, rfl, hh, hrow, hv6, hvr, hr, hb⟩ := hrel
              obtain ⟨pv, cv, rfl, -⟩ := row_slice' hrow
              have HH := Lib.hid hh
              have HRW := Lib.hid hrow
              have HV := Lib.hid (And.intro hv6 hvr)
              have HR := Lib.hid hr
              have HB := Lib.hid hb
              have c0 := hh.cell 0
              have c1 := hh.cell 1
              have c2 := hh.cell 2
              have d2 := hh.frozen 2
              simp at c0 c1 c2
              clear hh hrow hv6 hvr hr hb HH4 HR4 HB4
              by_cases hlt : j < n
              · obtain ⟨an, han⟩ : ∃ an, an = 12 + 2 * j := ⟨_, rfl⟩
                obtain ⟨en, hen⟩ : ∃ en, en = 14 + 2 * j := ⟨_, rfl⟩
                obtain ⟨xn, hxn⟩ : ∃ xn, xn = lowAt O.1 (12 + 2 * j) 2 := ⟨_, rfl⟩
                have hx0 : xn < 65536 := by rw [hxn]; exact Nat.lt_of_lt_of_le (low_lt _) (Nat.pow_le_pow_right (by omega) (by rw [List.length_take]; omega) : _ ≤ 256 ^ 2)
                have HNX : Hid (∀ W, Calls Tryz.prog 61 #[.string (Y.extract an en)] W fun e w' => e = .returned (.int .u64 (xn : Int)) ∧ W = w') := Lib.hid (fun W => by
                  have := rnum_at Y an en 2 (by omega) (by omega) W
                  rw [HYL.out, han] at this
                  rw [hxn, han]
                  exact this)
                have HTN : Hid ((refT O.1 (j + 1)).map (Value.int .i64) = (refT O.1 j).map (Value.int .i64) ++ [.int .i64 (xn : Int)]) := Lib.hid (by
                  unfold refT
                  rw [List.range_succ, List.map_append, List.map_append, hxn]
                  rfl)
                have hjI : (j : Int) < (n : Int) := by omega
                obtain ⟨d, hd⟩ : ∃ d : Int, d = 2 * (j : Int) := ⟨_, rfl⟩
                have e1 : 2 * (j : Int) = d := hd.symm
                have e2 : IntKind.i64.wrap d = d := by rw [IntKind.wrap_i64]; omega
                have e3 : 12 + d = (an : Int) := by omega
                have e4 : IntKind.i64.wrap (an : Int) = (an : Int) := by rw [IntKind.wrap_i64]; omega
                have e5 : 14 + d = (en : Int) := by omega
                have e6 : IntKind.i64.wrap (en : Int) = (en : Int) := by rw [IntKind.wrap_i64]; omega
                have e7 : an ≤ en := by omega
                have e8 : en ≤ Y.size := by omega
                have e8' : (en : Int) ≤ (Y.size : Int) := by omega
                have e9 : (an : Int) ≤ (en : Int) := by omega
                have e10 : en ≤ 252 := by omega
                have ex : IntKind.i64.wrap (xn : Int) = (xn : Int) := by rw [IntKind.wrap_i64]; omega
                have hj110 : j ≤ 110 := by omega
                have hd0 : 0 ≤ d := by omega
                have hd1 : d ≤ 500 := by omega
                have han5 : (an : Int) ≤ 500 := by omega
                have hen5 : (en : Int) ≤ 500 := by omega
                clear hd han hen hxn
                go_upto_region 16 with fail
                obtain ⟨old, hold⟩ : ∃ old, old = (refT O.1 j).map (Value.int .i64) := ⟨_, rfl⟩
                rw [← hold] at HRW HTN
                obtain ⟨i0, hi0, hz0, hz1, hz2⟩ := info_parts hints_info
                obtain ⟨W1, hW1⟩ : ∃ W1, W1 = wr.drew.alloc (.cells #[.int .i64 (xn : Int)] 3) := ⟨_, rfl⟩
                have hg1 : wr.grownBy W1 none := by rw [hW1]; exact by_alloc (by_drewN (by_refl _ _) 1) _
                have hb1 : Blk W1 wr.heap.size 3 #[.int .i64 (xn : Int)] := by rw [hW1]; exact Blk.new wr.drew _ _
                have hrow1 : W1.ownsRow w.heap.size 3 1 (.slice pv j cv) j old := row_other HRW.out hg1 (fun q e => by cases e)
                obtain ⟨gd, cap, Wf, hrun, hown, hgrow, hor, hlt'⟩ := run_append_lies (P := Tryz.prog) W1 22 22 w.heap.size 3 i0 (.int .i64 0) 1 8 Tryz.underlying22 hi0 hz0 hz1 hz2 rfl (by omega)
                  (.slice pv j cv) j old hrow1 ⟨wr.heap.size, 0, none⟩ 1 1 [.int .i64 (xn : Int)] rfl (fun i u hu => by
                    match i, hu with
                    | 0, hu =>
                      injection hu with hu
                      subst hu
                      rw [Go.WideShapes.add_plain]
                      exact hb1.cell 0) (by intro u hu; have := List.mem_singleton.1 hu; subst this; rfl) (by omega) (by unfold maxLen; omega) (by omega) (by rw [hW1]; have := HB.out.size; simp; omega) _ rfl
                have HRUN := Lib.hid hrun
                have HOWN := Lib.hid hown
                have hhf : Blk Wf h6 30 #[.int .i64 (sn : Int), .bool fb, .slice pv j cv] := blk_other (blk_other HH.out hg1 (by simp)) hgrow HV.out.1
                have hrf : Blk Wf w.heap.size 30 #[.int .i64 0, .bool false, .slice none 0 0] := blk_other (blk_other HR.out hg1 (by simp)) hgrow HV.out.2
                have hbf : Below w.heap.size w Wf := by
                  have k1 : Below w.heap.size w W1 := HB.out.trans (by rw [hW1]; exact (Below.refl _ _).drew.alloc HB.out.size _)
                  exact k1.grown hgrow k1.size (fun q e => (hrow1.lt q e).1)
                have hne : ∀ q, q < wr.heap.size → (Value.slice pv j cv).ownBlock ≠ some q → gd ≠ q := by
                  intro q hq hvq e
                  subst e
                  rcases hor with h1 | h1
                  · exact hvq h1
                  · rw [hW1] at h1
                    simp at h1
                    omega
                have n1 : gd ≠ h6 := hne h6 HH.out.lt HV.out.1
                have n2 : gd ≠ w.heap.size := hne w.heap.size HR.out.lt HV.out.2
                have HHF := Lib.hid hhf
                have HRF := Lib.hid hrf
                have HBF := Lib.hid hbf
                have HW1 := Lib.hid hW1
                clear hrun hown hhf hrf hbf hne hor hgrow hlt' hrow1 hb1 hg1 hold hi0 hz0 hz1 hz2 hW1
                have hcw : ∀ w' : World, (w' = wr.drew ∨ w' = W1) → w'.cell? ⟨h6, 2, none⟩ = some (.slice pv j cv) := fun w' hw => by
                  rcases hw with rfl | rfl
                  · exact HH.out.cell 2
                  · rw [HW1.out]
                    exact (Blk.below HH.out ((Below.refl _ _).drew.alloc (Nat.le_refl _) _) HH.out.lt).cell 2
                refine wp_region_sinks 53 15 67 1 (fun | 0 => .pointer (some ⟨h6, 2, none⟩) | 1 => .slice pv j cv | 2 => .string Y | 3 => .int .i64 (j : Int) | 4 => .int .i64 d | 5 => .int .i64 (an : Int) | 6 => .int .i64 (j : Int) | 7 => .int .i64 d | 8 => .int .i64 (en : Int) | 9 => .string (Y.extract an en) | 10 => .int .u64 (xn : Int) | 11 => .int .i64 (xn : Int) | 12 => .slice (some ⟨wr.heap.size, 0, none⟩) 1 1 | 13 => .slice (some ⟨gd, 0, none⟩) (j + 1) cap | _ => .pointer (some ⟨h6, 2, none⟩))
                  (fun L w' => w' = if L 13 then Wf else if L 12 then W1 else wr.drew) (by kernel_rfl) (by kernel_rfl) rfl (by omega) (by kernel_rfl) rfl (by simp) rfl ?hops ?hrest
                case hops =>
                  intro i hi L y w' hc hF hLi hJ hw hv
                  have HJ := Lib.hid hJ
                  have hbw : i = 1 → L 13 = false → w' = wr.drew ∨ w' = W1 := fun _ h13 => by
                    have hj := HJ.out
                    rw [h13] at hj
                    cases h12 : L 12 with
                    | true => rw [h12] at hj; exact .inr hj
                    | false => rw [h12] at hj; exact .inl hj
                  clear hJ
                  rcases (show i = 0 ∨ i = 1 ∨ i = 2 ∨ i = 3 ∨ i = 4 ∨ i = 5 ∨ i = 6 ∨ i = 7 ∨ i = 8 ∨ i = 9 ∨ i = 10 ∨ i = 11 ∨ i = 12 ∨ i = 13 ∨ i = 14 by omega) with rfl | rfl | rfl | rfl | rfl | rfl | rfl | rfl | rfl | rfl | rfl | rfl | rfl | rfl | rfl
                  · have t0 : y.tmps[6]?.getD undef = .pointer (some ⟨h6, 0, none⟩) := by rw [hF.2.2 6 (by omega)]; rfl
                    clear hw hv hF hbw
                    refine wpOp_value (v := .pointer (some ⟨h6, 2, none⟩)) (w' := w') rfl rfl ?_ ⟨rfl, HJ.out⟩
                    go_simp
                  · have t1 : y.tmps[53]?.getD undef = .pointer (some ⟨h6, 2, none⟩) := hv 0 (of_decide_eq_true (by kernel_rfl)) (by omega)
                    have h13 : L 13 = false := by
                      cases h : L 13 with
                      | false => rfl
                      | true => rw [hc 13 h 1 (of_decide_eq_true (by kernel_rfl))] at hLi; cases hLi
                    have c2 := hcw w' (hbw rfl h13)
                    clear hw hv hF hbw
                    refine wpOp_value (v := .slice pv j cv) (w' := w') rfl rfl ?_ ⟨rfl, HJ.out⟩
                    go_simp
                  · have t0 : y.tmps[4]?.getD undef = .string Y := by rw [hF.2.2 4 (by omega)]; rfl
                    clear hw hv hF hbw
                    refine wpOp_value (v := .string Y) (w' := w') rfl rfl ?_ ⟨rfl, HJ.out⟩
                    go_simp
                  · have t0 : y.tmps[8]?.getD undef = .int .i64 (j : Int) := by rw [hF.2.2 8 (by omega)]; rfl
                    clear hw hv hF hbw
                    refine wpOp_value (v := .int .i64 (j : Int)) (w' := w') rfl rfl ?_ ⟨rfl, HJ.out⟩
                    go_simp
                  · have t1 : y.tmps[56]?.getD undef = .int .i64 (j : Int) := hv 3 (of_decide_eq_true (by kernel_rfl)) (by omega)
                    clear hw hv hF hbw
                    refine wpOp_value (v := .int .i64 d) (w' := w') rfl rfl ?_ ⟨rfl, HJ.out⟩
                    go_simp
                  · have t1 : y.tmps[57]?.getD undef = .int .i64 d := hv 4 (of_decide_eq_true (by kernel_rfl)) (by omega)
                    clear hw hv hF hbw
                    refine wpOp_value (v := .int .i64 (an : Int)) (w' := w') rfl rfl ?_ ⟨rfl, HJ.out⟩
                    go_simp
                  · have t0 : y.tmps[8]?.getD undef = .int .i64 (j : Int) := by rw [hF.2.2 8 (by omega)]; rfl
                    clear hw hv hF hbw
                    refine wpOp_value (v := .int .i64 (j : Int)) (w' := w') rfl rfl ?_ ⟨rfl, HJ.out⟩
                    go_simp
                  · have t1 : y.tmps[59]?.getD undef = .int .i64 (j : Int) := hv 6 (of_decide_eq_true (by kernel_rfl)) (by omega)
                    clear hw hv hF hbw
                    refine wpOp_value (v := .int .i64 d) (w' := w') rfl rfl ?_ ⟨rfl, HJ.out⟩
                    go_simp
                  · have t1 : y.tmps[60]?.getD undef = .int .i64 d := hv 7 (of_decide_eq_true (by kernel_rfl)) (by omega)
                    clear hw hv hF hbw
                    refine wpOp_value (v := .int .i64 (en : Int)) (w' := w') rfl rfl ?_ ⟨rfl, HJ.out⟩
                    go_simp
                  · have t1 : y.tmps[55]?.getD undef = .string Y := hv 2 (of_decide_eq_true (by kernel_rfl)) (by omega)
                    have t2 : y.tmps[58]?.getD undef = .int .i64 (an : Int) := hv 5 (of_decide_eq_true (by kernel_rfl)) (by omega)
                    have t3 : y.tmps[61]?.getD undef = .int .i64 (en : Int) := hv 8 (of_decide_eq_true (by kernel_rfl)) (by omega)
                    have hsl : (Instr.slice 9 (.string Y) (some (.int .i64 (an : Int))) (some (.int .i64 (en : Int))) none).run Tryz.prog w' = .ok (.string (Y.extract an en)) w' := by
                      have := run_slice_string (P := Tryz.prog) w' 9 Y .i64 .i64 (an : Int) (en : Int) Tryz.underlying9 (by omega) e9 e8'
                      simpa using this
                    clear hw hv hF hbw
                    refine wpOp_value (v := .string (Y.extract an en)) (w' := w') rfl rfl ?_ ⟨rfl, HJ.out⟩
                    go_simp
                  · have t1 : y.tmps[62]?.getD undef = .string (Y.extract an en) := hv 9 (of_decide_eq_true (by kernel_rfl)) (by omega)
                    clear hw hv hF hbw
                    refine wpOp_call (f := 61) (args := #[.string (Y.extract an en)]) rfl rfl (by go_simp) ((HNX.out w').mono ?_)
                    rintro e w'' ⟨rfl, rfl⟩
                    exact ⟨_, rfl, rfl, HJ.out⟩
                  · have t1 : y.tmps[63]?.getD undef = .int .u64 (xn : Int) := hv 10 (of_decide_eq_true (by kernel_rfl)) (by omega)
                    clear hw hv hF hbw
                    refine wpOp_value (v := .int .i64 (xn : Int)) (w' := w') rfl rfl ?_ ⟨rfl, HJ.out⟩
                    go_simp
                  · have t1 : y.tmps[64]?.getD undef = .int .i64 (xn : Int) := hv 11 (of_decide_eq_true (by kernel_rfl)) (by omega)
                    have h13 : L 13 = false := by
                      cases h : L 13 with
                      | false => rfl
                      | true => rw [hc 13 h 12 (of_decide_eq_true (by kernel_rfl))] at hLi; cases hLi
                    have hj := HJ.out
                    rw [h13, hLi] at hj
                    have hj' : w' = wr.drew := hj
                    subst hj'
                    clear hw hv hF hbw hj HJ
                    refine wpOp_value (v := .slice (some ⟨wr.heap.size, 0, none⟩) 1 1) (w' := wr.drew.alloc (.cells #[.int .i64 (xn : Int)] 3)) rfl rfl ?_ ⟨rfl, ?_⟩
                    · go_simp
                    · simp only [if_true, h13, HW1.out]
                      rfl
                  · have t1 : y.tmps[54]?.getD undef = .slice pv j cv := hv 1 (of_decide_eq_true (by kernel_rfl)) (by omega)
                    have t2 : y.tmps[65]?.getD undef = .slice (some ⟨wr.heap.size, 0, none⟩) 1 1 := hv 12 (of_decide_eq_true (by kernel_rfl)) (by omega)
                    have l12 : L 12 = true := hw 12 (of_decide_eq_true (by kernel_rfl))
                    have hj := HJ.out
                    rw [hLi, l12] at hj
                    have hj' : w' = W1 := hj
                    subst hj'
                    clear hw hv hF hbw hj HJ
                    exact wpOp_value (v := .slice (some ⟨gd, 0, none⟩) (j + 1) cap) (w' := Wf) rfl rfl (exec_append rfl (by simpa [Act.eval] using t1) (by simpa [Act.eval] using t2) HRUN.out) ⟨rfl, by simp⟩
                  · have t0 : y.tmps[6]?.getD undef = .pointer (some ⟨h6, 0, none⟩) := by rw [hF.2.2 6 (by omega)]; rfl
                    clear hw hv hF hbw
                    refine wpOp_value (v := .pointer (some ⟨h6, 2, none⟩)) (w' := w') rfl rfl ?_ ⟨rfl, HJ.out⟩
                    go_simp
                case hrest =>
                  intro L w' hL hJ
                  rw [hL 13 (by omega)] at hJ
                  have hJ' : w' = Wf := hJ
                  subst hJ'
                  clear hL hJ L
                  have d2f := HHF.out.frozen 2
                  have hc2 := HHF.out.cell 2
                  simp at hc2
                  have hlen : j + 1 ≤ n := hlt
                  have HREL : Hid (∃ (j' : Nat) (v : Value), j' ≤ n ∧ Value.int .i64 ((j : Int) + 1) = .int .i64 j' ∧ Blk (w'.setCell ⟨h6, 2, none⟩ (.slice (some ⟨gd, 0, none⟩) (j + 1) cap)) h6 30 #[.int .i64 (sn : Int), .bool fb, v] ∧ (w'.setCell ⟨h6, 2, none⟩ (.slice (some ⟨gd, 0, none⟩) (j + 1) cap)).ownsRow w.heap.size 3 1 v j' ((refT O.1 j').map (Value.int .i64)) ∧ v.ownBlock ≠ some h6 ∧ v.ownBlock ≠ some w.heap.size ∧ Blk (w'.setCell ⟨h6, 2, none⟩ (.slice (some ⟨gd, 0, none⟩) (j + 1) cap)) w.heap.size 30 #[.int .i64 0, .bool false, .slice none 0 0] ∧ Below w.heap.size w (w'.setCell ⟨h6, 2, none⟩ (.slice (some ⟨gd, 0, none⟩) (j + 1) cap))) := Lib.hid (by
                    have hd := HHF.out.put 2 (.slice (some ⟨gd, 0, none⟩) (j + 1) cap)
                    refine ⟨j + 1, .slice (some ⟨gd, 0, none⟩) (j + 1) cap, hlen, by simp, hd, ?_, by simpa [Value.ownBlock] using n1, by simpa [Value.ownBlock] using n2, Blk.far HRF.out (fun e => by have e : w.heap.size = h6 := e; have := HLT.out; omega) _, HBF.out.setCell (by have := HLT.out; show w.heap.size ≤ h6; omega) _⟩
                    rw [HTN.out]
                    exact row_kept' HOWN.out (fun q e => Below.heap_setCell _ _ _ _ (fun e2 => by cases e; exact n1 e2)))
                  rw [show List.range' 15 1 = [15] from rfl]
                  simp only [putAll, List.range, List.range.loop, List.foldl, Nat.reduceAdd, List.setIfInBounds_toArray, List.set_cons_succ, List.set_cons_zero]
                  rw [wpOps_cons]
                  refine wpOp_skip (w' := w'.setCell ⟨h6, 2, none⟩ (.slice (some ⟨gd, 0, none⟩) (j + 1) cap)) rfl rfl (by go_simp) ?_
                  simp only [wpOps, Act.put, List.setIfInBounds_toArray]
                  clear HHF HRF HBF HOWN hc2 d2f c0 c1 c2 d2
                  go_wp2_with fail
                  go_roundw
                  case rel => exact HREL.out
                  case measure => simp [intOf]; omega
              · obtain rfl : j = n := by omega
                have hhd : refHD O.1 = ⟨(sn : Int), fb, refT O.1 j⟩ := by unfold refHD; rw [← HSN.out, ← HFB.out, ← HN.out]
                obtain ⟨H, hH⟩ : ∃ H, H = refHD O.1 := ⟨_, rfl⟩
                obtain ⟨ts, hts⟩ : ∃ ts, ts = refT O.1 j := ⟨_, rfl⟩
                have htl : ts.length = j := by rw [hts]; unfold refT; simp
                have hE := HE.out
                rw [← hH] at hE hhd
                rw [← hts] at hhd HRW
                have hat : H.At wr pv cv := by
                  rw [hhd]
                  have hh : wr.ownsRow w.heap.size 3 1 (.slice pv ts.length cv) ts.length (ts.map (Value.int .i64)) := by rw [htl]; exact HRW.out
                  exact ⟨row_ints hh, by show ts.length ≤ _; omega⟩
                have hval : H.val pv cv = .agg #[.int .i64 (sn : Int), .bool fb, .slice pv j cv] := by rw [hhd]; unfold HD.val; simp only; rw [htl]
                have HVAL := Lib.hid (rvalid_any H pv cv wr hat)
                have HLAY : Hid (H.validB = true → ∀ W, Below wr.heap.size wr W → Calls Tryz.prog 14 #[H.val pv cv] W fun e w' => e = .returned (.string (bs H.text)) ∧ Below W.heap.size W w') := Lib.hid (fun hv W hb => rlay_any H (HD.valid_of hv) pv cv W (hat.below hb))
                have HAT := Lib.hid hat
                have HHD := Lib.hid hhd
                have HTL := Lib.hid htl
                have hfa := HH.out.frozen 0
                rw [hval] at HVAL HLAY
                clear hat hhd htl hts hH
                by_cases hv : H.validB = true
                · obtain ⟨T, hT⟩ : ∃ T, T = bs H.text := ⟨_, rfl⟩
                  have hL := HLAY.out hv
                  rw [← hT] at hL
                  have HLL := Lib.hid hL
                  rw [hv] at HVAL
                  by_cases ht : H.text = X.data.toList
                  · have hq : Q = (H, 0) := by rw [hE, if_pos ⟨hv, ht⟩]
                    have HQ := Lib.hid hq
                    have hcmp : (T.toList == X.toList) = true := by rw [hT, Lib.toList_data, Lib.toList_data, bs_list, ht]; simp
                    clear hE ht hT hL HLAY hq HE
                    go_wp2_with fail
                    refine HVAL.out.mono ?_
                    rintro e w5 ⟨rfl, hb5⟩
                    have hh5 := HH.out.below hb5 HH.out.lt
                    have HH5 := Lib.hid hh5
                    have HB5 := Lib.hid hb5
                    have c0' := hh5.cell 0
                    have c1' := hh5.cell 1
                    have c2' := hh5.cell 2
                    simp at c0' c1' c2'
                    clear hh5 hb5
                    go_wp2_with fail
                    refine (HLL.out _ HB5.out).mono ?_
                    rintro e w6 ⟨rfl, hb6⟩
                    have HB6 := Lib.hid (HB5.out.trans (hb6.mono HB5.out.size))
                    have HRZ := Lib.hid (HR.out.below HB6.out HR.out.lt)
                    have HBZ := Lib.hid (HB.out.trans (HB6.out.mono HB.out.size))
                    have HRWZ := Lib.hid (row_kept' HRW.out (fun k e => HB6.out.block k (HRW.out.lt k e).2))
                    have hh6 := HH5.out.below hb6 HH5.out.lt
                    have g0 := hh6.cell 0
                    have g1 := hh6.cell 1
                    have g2 := hh6.cell 2
                    simp at g0 g1 g2
                    clear hh6 hb6
                    have r0 := HRZ.out.cell 0
                    have r1 := HRZ.out.cell 1
                    have r2 := HRZ.out.cell 2
                    have f0 := HRZ.out.frozen 0
                    have f1 := HRZ.out.frozen 1
                    have f2 := HRZ.out.frozen 2
                    simp at r0 r1 r2
                    go_wp2_with fail
                    have b3 := ((HRZ.out.put 0 (.int .i64 (sn : Int))).put 1 (.bool fb)).put 2 (.slice pv j cv)
                    refine hret_cell2 rfl rfl (rhead_var b3) rfl rfl ?_
                    rw [HQ.out]
                    simp only
                    refine ⟨pv, cv, by rw [hval]; rfl, ?_, by rw [HHD.out]; simp only; rw [HTL.out]; exact h5', ((HBZ.out.setCell (Nat.le_refl _) _).setCell (Nat.le_refl _) _).setCell (Nat.le_refl _) _⟩
                    rw [HHD.out]
                    simp only
                    rw [HTL.out]
                    refine row_kept' HRWZ.out (fun q e => ?_)
                    have hne : q ≠ w.heap.size := fun e2 => HV.out.2 (by rw [← e2]; exact e)
                    exact (Below.heap_setCell _ _ _ _ (fun e => hne e)).trans ((Below.heap_setCell _ _ _ _ (fun e => hne e)).trans (Below.heap_setCell _ _ _ _ (fun e => hne e)))
                  · have hq : Q = (HD.zero, 6) := by rw [hE, if_neg (fun h => ht h.2)]
                    have HQ := Lib.hid hq
                    have hcmp : (T.toList == X.toList) = false := by
                      rw [hT, Lib.toList_data, Lib.toList_data, bs_list]
                      exact beq_eq_false_iff_ne.2 ht
                    clear hE ht hT hL HLAY hq HE
                    go_wp2_with fail
                    refine HVAL.out.mono ?_
                    rintro e w5 ⟨rfl, hb5⟩
                    have hh5 := HH.out.below hb5 HH.out.lt
                    have HH5 := Lib.hid hh5
                    have HB5 := Lib.hid hb5
                    have c0' := hh5.cell 0
                    have c1' := hh5.cell 1
                    have c2' := hh5.cell 2
                    simp at c0' c1' c2'
                    clear hh5 hb5
                    go_wp2_with fail
                    refine (HLL.out _ HB5.out).mono ?_
                    rintro e w6 ⟨rfl, hb6⟩
                    have HB6 := Lib.hid (HB5.out.trans (hb6.mono HB5.out.size))
                    have HRZ := Lib.hid (HR.out.below HB6.out HR.out.lt)
                    have HBZ := Lib.hid (HB.out.trans (HB6.out.mono HB.out.size))
                    have HRWZ := Lib.hid (row_kept' HRW.out (fun k e => HB6.out.block k (HRW.out.lt k e).2))
                    have hh6 := HH5.out.below hb6 HH5.out.lt
                    have g0 := hh6.cell 0
                    have g1 := hh6.cell 1
                    have g2 := hh6.cell 2
                    simp at g0 g1 g2
                    clear hh6 hb6
                    have r0 := HRZ.out.cell 0
                    have r1 := HRZ.out.cell 1
                    have r2 := HRZ.out.cell 2
                    have f0 := HRZ.out.frozen 0
                    have f1 := HRZ.out.frozen 1
                    have f2 := HRZ.out.frozen 2
                    simp at r0 r1 r2
                    go_wp2_with fail
                    have b3 := ((HRZ.out.put 0 (.int .i64 0)).put 1 (.bool false)).put 2 (.slice none 0 0)
                    refine hret_cell2 rfl rfl (rhead_var b3) rfl rfl ?_
                    rw [HQ.out]
                    exact ⟨none, 0, rfl, World.ownsRow_nil _ _ _ _, by decide, ((HBZ.out.setCell (Nat.le_refl _) _).setCell (Nat.le_refl _) _).setCell (Nat.le_refl _) _⟩
                · have hq : Q = (HD.zero, 6) := by rw [hE, if_neg (fun h => hv h.1)]
                  have HQ := Lib.hid hq
                  have hv' : H.validB = false := by simpa using hv
                  rw [hv'] at HVAL
                  clear hE hv hv' hq HE HLAY
                  go_wp2_with fail
                  refine HVAL.out.mono ?_
                  rintro e w5 ⟨rfl, hb5⟩
                  have HRZ := Lib.hid (HR.out.below hb5 HR.out.lt)
                  have HBZ := Lib.hid (HB.out.trans (hb5.mono HB.out.size))
                  have r0 := HRZ.out.cell 0
                  have r1 := HRZ.out.cell 1
                  have r2 := HRZ.out.cell 2
                  have f0 := HRZ.out.frozen 0
                  have f1 := HRZ.out.frozen 1
                  have f2 := HRZ.out.frozen 2
                  simp at r0 r1 r2
                  go_wp2_with fail
                  have b3 := ((HRZ.out.put 0 (.int .i64 0)).put 1 (.bool false)).put 2 (.slice none 0 0)
                  refine hret_cell2 rfl rfl (rhead_var b3) rfl rfl ?_
                  rw [HQ.out]
                  exact ⟨none, 0, rfl, World.ownsRow_nil _ _ _ _, by decide, ((HBZ.out.setCell (Nat.le_refl _) _).setCell (Nat.le_refl _) _).setCell (Nat.le_refl _) _⟩
      · have E : Q = (HD.zero, O.2) := by rw [hQ]; unfold refRead; rw [if_neg (by omega), if_neg h2, ← hO, if_pos h3]
        subst E
        obtain ⟨x, hx⟩ : ∃ x, x = O.2 := ⟨_, rfl⟩
        rw [← hx] at HOPEN h3 ⊢
        have h3' : (x != 0) = true := by rw [bne_iff_ne]; exact h3
        clear hQ hlen hZ h2 h2' hO hY hx
        go_enter Tryz.func16, Tryz.ntmps16
        go_wp2_with fail
        refine (HZ.out _).mono ?_
        rintro e w1 ⟨rfl, hb1⟩
        have HR1 := Lib.hid (HR0.out.below hb1 HR0.out.lt)
        have HB1 := Lib.hid (HB0.out.trans (hb1.mono HB0.out.size))
        clear hb1
        go_wp2_with fail
        refine (HOPEN.out _).mono ?_
        rintro e w2 ⟨rfl, hb2⟩
        have HR2 := Lib.hid (HR1.out.below hb2 HR1.out.lt)
        have HB2 := Lib.hid (HB1.out.trans (hb2.mono HB1.out.size))
        clear hb2
        have r0 := HR2.out.cell 0
        have r1 := HR2.out.cell 1
        have r2 := HR2.out.cell 2
        have f0 := HR2.out.frozen 0
        have f1 := HR2.out.frozen 1
        have f2 := HR2.out.frozen 2
        simp at r0 r1 r2
        go_wp2_with fail
        have b3 := ((HR2.out.put 0 (.int .i64 0)).put 1 (.bool false)).put 2 (.slice none 0 0)
        refine hret_cell2 rfl rfl (rhead_var b3) rfl rfl ?_
        exact ⟨none, 0, rfl, World.ownsRow_nil _ _ _ _, by decide, ((HB2.out.setCell (Nat.le_refl _) _).setCell (Nat.le_refl _) _).setCell (Nat.le_refl _) _⟩
  · have h1' : ¬ (X.size : Int) = 256 := by omega
    have h1b : ((X.size : Int) != 256) = true := by rw [bne_iff_ne]; exact h1'
    have E : Q = (HD.zero, 5) := by rw [hQ]; unfold refRead; rw [if_pos (by omega)]
    subst E
    clear hQ hlen
    have r0 := HR0.out.cell 0
    have r1 := HR0.out.cell 1
    have r2 := HR0.out.cell 2
    have f0 := HR0.out.frozen 0
    have f1 := HR0.out.frozen 1
    have f2 := HR0.out.frozen 2
    simp at r0 r1 r2
    go_enter Tryz.func16, Tryz.ntmps16
    go_wp2_with fail
    refine hret_cell2 rfl rfl (rhead_var HR0.out) rfl rfl ?_
    exact ⟨none, 0, rfl, World.ownsRow_nil _ _ _ _, by decide, HB0.out⟩
end Go.Proofs.YtnpmeolibdjgpaaGreatDoor
