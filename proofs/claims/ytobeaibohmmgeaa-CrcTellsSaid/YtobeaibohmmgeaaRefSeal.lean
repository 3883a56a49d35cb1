/-
  The document's own Seal and Open (package masonryref1).
-/
import Derived.Test.YtobeaibohmmgeaaRefCrc
import Derived.Test.YtobeaibohmmgeaaCrcSeal
import Derived.Test.YtobeaibohmmgeaaCrcOpen
namespace Go.Proofs.Ytobeaibohmmgeaa
open Go.RowKit

theorem append_list (s t : ByteArray) : (s ++ t).data.toList = s.data.toList ++ t.data.toList := by
  rw [ByteArray.data_append, Array.toList_append]
theorem append_zeros (s : ByteArray) (N : Nat) : (s ++ zeroB N).data.toList = s.data.toList ++ List.replicate N 0 := by
  rw [append_list, zeroB_list]
theorem append_mk (s : ByteArray) (l : List UInt8) : s ++ ⟨l.toArray⟩ = ⟨(s.data.toList ++ l).toArray⟩ := by
  apply ByteArray.ext
  apply Array.toList_inj.1
  rw [append_list]

set_option maxRecDepth 100000 in
set_option maxHeartbeats 1000000 in
theorem ref_seal (n : Int) (s : ByteArray) (w : World) (hs : s.size ≤ 1000000) :
    Calls Try.prog 12 #[.int .i64 n, .string s] w fun e w' => e = .returned (sealV n s.data.toList) ∧ Below w.heap.size w w' := by
  by_cases ha : n < 4 ∨ 65536 < n
  · have E : sealV n s.data.toList = .tuple #[.string .empty, .int .i64 1] := by unfold sealV; rw [sealB_arg ha]; rfl
    rw [E]
    clear E
    by_cases h1 : n < 4
    · go_enter Try.func12, Try.ntmps12
      go_wp2_with fail
      go_ret2
      exact ⟨rfl, Below.refl _ _⟩
    · have h2 : 65536 < n := by omega
      clear ha
      go_enter Try.func12, Try.ntmps12
      go_wp2_with fail
      go_ret2
      exact ⟨rfl, Below.refl _ _⟩
  · have h0 : 4 ≤ n := by omega
    have h1 : n ≤ 65536 := by omega
    clear ha
    by_cases hbig : n - 4 < (s.size : Int)
    · have E : sealV n s.data.toList = .tuple #[.string .empty, .int .i64 2] := by unfold sealV; rw [sealB_long h0 h1 (by rw [← Lib.size_eq]; exact hbig)]; rfl
      rw [E]
      clear E
      go_enter Try.func12, Try.ntmps12
      go_wp2_with fail
      go_ret2
      exact ⟨rfl, Below.refl _ _⟩
    · have hsm : (s.size : Int) ≤ n - 4 := by omega
      clear hbig
      obtain ⟨N, hN⟩ : ∃ N : Nat, (N : Int) = n - 4 - s.size := ⟨(n - 4 - s.size).toNat, by omega⟩
      have hNb : N ≤ 65532 := by omega
      have eb : body n s.data.toList = (s ++ zeroB N).data.toList := by
        rw [append_zeros]
        unfold body
        rw [← Lib.size_eq]
        congr 2
        omega
      have E : sealV n s.data.toList = .tuple #[.string ((s ++ zeroB N) ++ ⟨(lowBytes 4 (crc (s ++ zeroB N).data.toList)).toArray⟩), .int .i64 0] := by
        unfold sealV
        rw [sealB_ok h0 h1 (by rw [← Lib.size_eq]; exact hsm), eb, append_mk (s ++ zeroB N)]
      rw [E]
      have hz : (s ++ zeroB N).size ≤ 140737488351232 := by rw [ByteArray.size_append, zeroB_size]; omega
      have HN := Lib.hid hN
      have HZ := Lib.hid hz
      clear E eb hN hz
      go_enter Try.func12, Try.ntmps12
      go_wp2_with fail
      rw [← HN.out]
      refine (ref_zeros N _ (by omega)).mono ?_
      rintro e w1 ⟨rfl, hb1⟩
      have hcl := crc_lt (s ++ zeroB N).data.toList
      have hsz : s.size + (zeroB N).size ≤ 9223372036854775807 := by rw [zeroB_size]; omega
      have hsz2 : (s ++ zeroB N).size + 4 ≤ 9223372036854775807 := by have := HZ.out; omega
      obtain ⟨Z, hZE⟩ : ∃ Z, Z = zeroB N := ⟨_, rfl⟩
      rw [← hZE] at HZ hcl hsz hsz2 ⊢
      have HZE := Lib.hid hZE
      obtain ⟨C, hC⟩ : ∃ C, C = crc (s ++ Z).data.toList := ⟨_, rfl⟩
      have hrc := fun w => ref_crc (s ++ Z) w HZ.out
      simp only [← hC] at hrc hcl
      have HRC := Lib.hid hrc
      have HC := Lib.hid hC
      clear hC hrc hZE
      go_wp2_with fail
      refine (HRC.out _).mono ?_
      rintro e w2 ⟨rfl, rfl⟩
      go_wp2_with fail
      obtain ⟨V, hV⟩ : ∃ V : ByteArray, V = ⟨(lowBytes 4 C).toArray⟩ := ⟨_, rfl⟩
      have hVs : V.size ≤ 4 := by rw [hV, Lib.size_eq]; show (lowBytes 4 C).length ≤ 4; rw [lowBytes_length]; exact Nat.le_refl _
      have hsz3 : (s ++ Z).size + V.size ≤ 9223372036854775807 := by omega
      have hsz4 : s.size + Z.size + V.size ≤ 9223372036854775807 := by rw [ByteArray.size_append] at hsz3; exact hsz3
      have hrl := fun w => ref_low4 C w hcl
      simp only [← hV] at hrl
      have HRL := Lib.hid hrl
      have HV := Lib.hid hV
      clear hV hrl
      refine (HRL.out _).mono ?_
      rintro e w3 ⟨rfl, hb3⟩
      go_wp2_with fail
      go_ret2
      exact ⟨by rw [HV.out, HC.out, HZE.out]; rfl, hb1.trans (hb3.mono hb1.size)⟩

theorem open_eq {b H T : ByteArray} {k : Nat} (hk : b.size = k + 4) (hT : T = b.extract k b.size) (hH : H = b.extract 0 k) (c : Nat) (hc : c < 4294967296) :
    (H ++ ⟨(lowBytes 4 c).toArray⟩ = b) ↔ low T.data.toList = c := by
  have hl : b.data.toList.length = k + 4 := by rw [← Lib.size_eq]; exact hk
  have eT : T.data.toList = b.data.toList.drop k := by
    rw [hT, ByteArray.data_extract, Array.toList_extract, List.extract_eq_take_drop, List.take_of_length_le (by rw [List.length_drop, hl, hk]; exact Nat.le_refl _)]
  have eH : H.data.toList = b.data.toList.take k := by
    rw [hH, ByteArray.data_extract, Array.toList_extract, List.extract_eq_take_drop, List.drop_zero, Nat.sub_zero]
  have hTl : T.data.toList.length = 4 := by rw [eT, List.length_drop, hl]; omega
  rw [append_mk, eH]
  constructor
  · intro h
    have h2 := congrArg (fun x : ByteArray => x.data.toList.drop k) h
    simp only [List.drop_left' (show (b.data.toList.take k).length = k by rw [List.length_take, hl]; omega)] at h2
    rw [eT, ← h2, low_four hc]
  · intro h
    have h2 := lowBytes_low T.data.toList
    rw [hTl, h, eT] at h2
    rw [h2, List.take_append_drop]

set_option maxRecDepth 100000 in
set_option maxHeartbeats 1000000 in
theorem ref_open (b : ByteArray) (w : World) (hb : b.size ≤ 140737488351232) :
    Calls Try.prog 14 #[.string b] w fun e w' => e = .returned (openV b.data.toList) ∧ Below w.heap.size w w' := by
  by_cases h4 : b.size < 4
  · have E : openV b.data.toList = .tuple #[.string .empty, .int .i64 5] := by unfold openV openB; rw [if_pos (by rw [← Lib.size_eq]; exact h4)]; rfl
    rw [E]
    clear E
    go_enter Try.func14, Try.ntmps14
    go_wp2_with fail
    go_ret2
    exact ⟨rfl, Below.refl _ _⟩
  · have hk : b.size = b.size - 4 + 4 := by omega
    have hk1 : 4 ≤ b.size := by omega
    have hV := openV_of hk rfl rfl
    have hE := fun c hc => open_eq hk (T := b.extract (b.size - 4) b.size) (H := b.extract 0 (b.size - 4)) rfl rfl c hc
    have hH : (b.extract 0 (b.size - 4)).size ≤ 140737488351232 := by simp; omega
    have hcl := crc_lt (b.extract 0 (b.size - 4)).data.toList
    have hrc := fun w => ref_crc (b.extract 0 (b.size - 4)) w hH
    obtain ⟨H, hHH⟩ : ∃ H, H = b.extract 0 (b.size - 4) := ⟨_, rfl⟩
    obtain ⟨T, hT⟩ : ∃ T, T = b.extract (b.size - 4) b.size := ⟨_, rfl⟩
    obtain ⟨C, hC⟩ : ∃ C, C = crc H.data.toList := ⟨_, rfl⟩
    simp only [← hHH, ← hT, ← hC] at hrc hcl hH hE hV
    obtain ⟨V, hVV⟩ : ∃ V : ByteArray, V = ⟨(lowBytes 4 C).toArray⟩ := ⟨_, rfl⟩
    have hVs : V.size ≤ 4 := by rw [hVV, Lib.size_eq]; show (lowBytes 4 C).length ≤ 4; rw [lowBytes_length]; exact Nat.le_refl _
    have hrl := fun w => ref_low4 C w hcl
    have hE' := hE C hcl
    simp only [← hVV] at hrl hE'
    have hsz : H.size + V.size ≤ 9223372036854775807 := by omega
    have HV := Lib.hid hV
    have HE := Lib.hid hE'
    have HRC := Lib.hid hrc
    have HRL := Lib.hid hrl
    have HHH := Lib.hid hHH
    clear hk hC hrc h4 hV hE hE' hrl hVV hHH hT
    go_enter Try.func14, Try.ntmps14
    go_wp2_with fail
    rw [← HHH.out]
    refine (HRC.out _).mono ?_
    rintro e w2 ⟨rfl, rfl⟩
    go_wp2_with fail
    refine (HRL.out _).mono ?_
    rintro e w3 ⟨rfl, hb3⟩
    by_cases he : low T.data.toList = C
    · have hq : H ++ V = b := HE.out.2 he
      have HQ := Lib.hid he
      clear he
      go_wp2_with fail
      go_ret2
      exact ⟨by rw [HV.out, if_pos HQ.out]; rfl, hb3⟩
    · have hq : ((H ++ V).toList == b.toList) = false := by
        rw [beq_eq_false_iff_ne, Lib.toList_data, Lib.toList_data]
        exact fun h => he (HE.out.1 (ByteArray.ext (Array.toList_inj.1 h)))
      have HQ := Lib.hid he
      clear he
      go_wp2_with fail
      go_ret2
      exact ⟨by rw [HV.out, if_neg HQ.out]; rfl, hb3⟩
end Go.Proofs.Ytobeaibohmmgeaa
