/-
  CrcWithin, walked at every input. No statement is proved here.
-/
import Derived.Test.YtobeaibohmmgeaaCrcSeal
import Derived.Test.YtobeaibohmmgeaaCrcOpen
import Derived.Test.YtobeaibohmmgeaaCrcAlive
namespace Go.Proofs.Ytobeaibohmmgeaa
open Go.RowKit

/-- Sealed k times, each time in as few bytes as there are. -/
def wrapped : Nat → List UInt8 → List UInt8
  | 0, l => l
  | k + 1, l => wrapped k l ++ lowBytes 4 (crc (wrapped k l))
theorem wrapped_length (k : Nat) (l : List UInt8) : (wrapped k l).length = l.length + 4 * k := by
  induction k with
  | zero => rfl
  | succ k ih => rw [wrapped, List.length_append, ih, lowBytes_length]; omega
def wrapB (k : Nat) (s : ByteArray) : ByteArray := ⟨(wrapped k s.data.toList).toArray⟩
theorem wrapB_size (k : Nat) (s : ByteArray) : (wrapB k s).size = s.size + 4 * k := by
  rw [Lib.size_eq, Lib.size_eq]
  exact wrapped_length k s.data.toList
theorem wrapB_zero (s : ByteArray) : wrapB 0 s = s := rfl
theorem wrap_seal (k : Nat) (s : ByteArray) (h : (wrapB k s).size ≤ 60000) : sealV ((wrapB k s).size + 4) (cats [wrapB k s]) = .tuple #[.string (wrapB (k + 1) s), .int .i64 0] := by
  have e : cats [wrapB k s] = wrapped k s.data.toList := by simp [cats, wrapB]
  have hl : (wrapped k s.data.toList).length = (wrapB k s).size := by rw [wrapped_length, wrapB_size, ← Lib.size_eq]
  have hb : body ((wrapB k s).size + 4) (wrapped k s.data.toList) = wrapped k s.data.toList := by
    unfold body
    rw [hl, show (((wrapB k s).size : Int) + 4 - 4).toNat - (wrapB k s).size = 0 by omega]
    simp
  unfold sealV
  rw [e, sealB_ok (by omega) (by omega) (by rw [hl]; omega), hb]
  rfl
theorem wrap_open (k : Nat) (s : ByteArray) : openV (wrapB (k + 1) s).data.toList = .tuple #[.string (wrapB k s), .int .i64 0] := by
  have e : (wrapB (k + 1) s).data.toList = wrapped k s.data.toList ++ lowBytes 4 (crc (wrapped k s.data.toList)) := rfl
  unfold openV
  rw [e, openB_back]
  rfl
theorem short_open (b : ByteArray) (h : b.size < 4) : openV b.data.toList = .tuple #[.string .empty, .int .i64 5] := by
  unfold openV openB
  rw [if_pos (by rw [← Lib.size_eq]; exact h)]
  rfl

theorem abc_short (m : Nat) (_h : m ≤ 3) : ((⟨#[97, 98, 99]⟩ : ByteArray).extract 0 m).size < 4 := by
  rw [ByteArray.size_extract]
  have : (⟨#[97, 98, 99]⟩ : ByteArray).size = 3 := rfl
  omega

set_option maxRecDepth 100000 in
set_option maxHeartbeats 1000000 in
theorem within_out (s : ByteArray) (n : Int) (w : World) (h : 500 < s.size ∨ n < 0 ∨ 6 < n) (hs : s.size ≤ 140737488351232) (hn : -9223372036854775808 ≤ n ∧ n ≤ 9223372036854775807) :
    Calls Try.prog 6 #[.string s, .int .i64 n] w fun e w' => e = .returned (.bool true) ∧ Below w.heap.size w w' := by
  obtain ⟨n0, n1⟩ := hn
  by_cases h1 : 500 < s.size
  · clear h
    go_enter Try.func6, Try.ntmps6
    go_wp2_with fail
    refine (alive2_any _).mono ?_
    rintro e w1 ⟨rfl, hb1⟩
    go_wp2_with fail
    go_ret
    exact ⟨rfl, hb1⟩
  · have h1' : s.size ≤ 500 := by omega
    by_cases h2 : n < 0
    · clear h h1
      go_enter Try.func6, Try.ntmps6
      go_wp2_with fail
      refine (alive2_any _).mono ?_
      rintro e w1 ⟨rfl, hb1⟩
      go_wp2_with fail
      go_ret
      exact ⟨rfl, hb1⟩
    · have h3 : 6 < n := by omega
      have h2' : 0 ≤ n := by omega
      clear h h1 h2
      go_enter Try.func6, Try.ntmps6
      go_wp2_with fail
      refine (alive2_any _).mono ?_
      rintro e w1 ⟨rfl, hb1⟩
      go_wp2_with fail
      go_ret
      exact ⟨rfl, hb1⟩

set_option maxRecDepth 100000 in
set_option maxHeartbeats 4000000 in
theorem within_in (s : ByteArray) (n : Nat) (w : World) (hs : s.size ≤ 500) (hn : n ≤ 6) :
    Calls Try.prog 6 #[.string s, .int .i64 n] w fun e w' => e = .returned (.bool true) ∧ Below w.heap.size w w' := by
  go_enter Try.func6, Try.ntmps6
  go_wp2_with fail
  refine (alive2_any _).mono ?_
  rintro e w1 ⟨rfl, hb1⟩
  go_wp2_with fail
  go_loopw [5, 6] (fun b i wr => ∃ j : Nat, j ≤ n ∧ i = .int .i64 j ∧ b = .string (wrapB j s) ∧ Below w.heap.size w wr) (fun _ i _ => n - (intOf i).toNat)
  case atStart => exact ⟨0, Nat.zero_le _, rfl, rfl, hb1⟩
  case round =>
    obtain ⟨j, hj, rfl, rfl, hbr⟩ := hrel
    clear hb1
    by_cases hlt : j < n
    · have hsz := wrapB_size j s
      have hle : (wrapB j s).size ≤ 600 := by omega
      have HS := Lib.hid (wrap_seal j s (by omega))
      have HF : Hid (TextsFit [wrapB j s]) := Lib.hid ⟨by simp, fun x hx => by rw [List.mem_singleton.1 hx]; omega⟩
      clear hsz
      go_wp2_with fail
      with_reducible refine (seal_any ((wrapB j s).size + 4) (some ⟨wr.heap.size, 0, none⟩) 1 1 [wrapB j s] _ rfl ?_ HF.out).mono ?_
      · exact txts_at _ _ _ _ rfl rfl
      rintro e w2 ⟨rfl, hb2⟩
      rw [HS.out]
      have hb2' : Below w.heap.size w w2 := (hbr.alloc hbr.size _).trans (hb2.mono (by have := hbr.size; simp; omega))
      clear hb2 hbr
      go_wp2_with fail
      go_roundw
      case rel => exact ⟨j + 1, by omega, by go_num, rfl, hb2'⟩
      case measure => simp [intOf]; omega
    · obtain rfl : j = n := by omega
      go_wp2_with fail
      go_loopw [5, 9] (fun b i wr => ∃ k : Nat, k ≤ j ∧ i = .int .i64 k ∧ b = .string (wrapB (j - k) s) ∧ Below w.heap.size w wr) (fun _ i _ => j - (intOf i).toNat)
      case atStart => exact ⟨0, Nat.zero_le _, rfl, rfl, hbr⟩
      case round =>
        obtain ⟨k, hk, rfl, rfl, hbr2⟩ := hrel
        clear hbr
        by_cases hlt2 : k < j
        · obtain ⟨q, hq⟩ : ∃ q, j - k = q + 1 := ⟨j - k - 1, by omega⟩
          have hq2 : j - (k + 1) = q := by omega
          have hsz := wrapB_size (j - k) s
          have hle : (wrapB (j - k) s).size ≤ 140737488351232 := by omega
          have HO := Lib.hid (wrap_open q s)
          have HQ := Lib.hid hq
          have HQ2 := Lib.hid hq2
          clear hsz hq hq2
          go_wp2_with fail
          with_reducible refine (open_any (wrapB (j - k) s) _ hle).mono ?_
          rintro e w2 ⟨rfl, hb2⟩
          rw [HQ.out, HO.out]
          have hb2' : Below w.heap.size w w2 := hbr2.trans (hb2.mono hbr2.size)
          clear hb2 hbr2
          go_wp2_with fail
          go_roundw
          case rel => exact ⟨k + 1, by omega, by go_num, by rw [HQ2.out], hb2'⟩
          case measure => simp [intOf]; omega
        · obtain rfl : k = j := by omega
          rw [Nat.sub_self, wrapB_zero]
          have hm0 : (0 : Int) ≤ (k : Int) % 4 := by omega
          have hm1 : (k : Int) % 4 ≤ 3 := by omega
          have HA := Lib.hid (abc_short (k % 4) (by omega))
          go_wp2_with fail
          refine (open_any _ _ (by have := HA.out; omega)).mono ?_
          rintro e w2 ⟨rfl, hb2⟩
          rw [short_open _ HA.out]
          have hb2' : Below w.heap.size w w2 := hbr2.trans (hb2.mono hbr2.size)
          clear hb2 hbr2
          go_wp2_with fail
          go_ret
          exact ⟨by first | rfl | simp, hb2'⟩

theorem within_any (s : ByteArray) (n : Int) (w : World) (hs : s.size ≤ 140737488351232) (hn : -9223372036854775808 ≤ n ∧ n ≤ 9223372036854775807) :
    Calls Try.prog 6 #[.string s, .int .i64 n] w fun e w' => e = .returned (.bool true) ∧ Below w.heap.size w w' := by
  by_cases h : 500 < s.size ∨ n < 0 ∨ 6 < n
  · exact within_out s n w h hs hn
  · obtain ⟨m, rfl⟩ := Int.eq_ofNat_of_zero_le (show 0 ≤ n by omega)
    exact within_in s m w (by omega) (by omega)
end Go.Proofs.Ytobeaibohmmgeaa
