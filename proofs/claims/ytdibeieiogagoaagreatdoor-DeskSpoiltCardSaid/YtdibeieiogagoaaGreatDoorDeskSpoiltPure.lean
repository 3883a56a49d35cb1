/-
  DeskSpoilt: sectors that are no head, no Room. No statement is proved here.
-/
import Derived.Test.YtdibeieiogagoaaGreatDoorDeskAwake
namespace Go.Proofs.YtdibeieiogagoaaGreatDoor
open Go.RowKit

theorem fillX_first (s : ByteArray) : (fillB (⟨#[120]⟩ ++ s)).data.toList.head? = some 120 := by
  have h : (fillB (⟨#[120]⟩ ++ s)).data.toList = (List.range 256).map (fillAt (⟨#[120]⟩ ++ s)) := by simp [fillB]
  have h0 : (List.range 256).head? = some 0 := by decide
  have h1 : fillAt (⟨#[120]⟩ ++ s) 0 = 120 := by
    have e : (⟨#[120]⟩ ++ s : ByteArray).data.toList = 120 :: s.data.toList := by simp [ByteArray.data_append]
    have e2 : 0 < (⟨#[120]⟩ ++ s : ByteArray).size := by rw [Lib.size_eq, e]; simp
    unfold fillAt
    rw [if_pos e2, Nat.zero_mod, e]
    rfl
  rw [h, List.head?_map, h0]
  exact congrArg some h1
theorem room_first (n : Nat) (H : List Int) : (roomT n H).head? = some 6 := by
  have e : lowBytes 1 6 = [6] := by decide
  unfold roomT body roomE
  rw [e]
  rfl
theorem text_first (h : HD) : h.text.head? = some 7 := by
  have e : lowBytes 1 7 = [7] := by decide
  unfold HD.text body HD.bytes
  rw [e]
  rfl
theorem read_first {b : List UInt8} (hl : b.length = 256) (h : b.head? = some 120) : (readR b).2.2 ≠ 0 := by
  unfold readR
  rw [if_neg (by omega)]
  split
  · rename_i h1; exact h1
  · split
    · decide
    · split
      · rename_i h1
        have := room_first (sizeN (openB b).1) (bitsH (openB b).1 (sizeN (openB b).1))
        rw [h1, h] at this
        exact absurd this (by decide)
      · decide
theorem head_first {b : List UInt8} (hl : b.length = 256) (h : b.head? = some 120) : (readHD b).2 ≠ 0 := by
  unfold readHD
  rw [if_neg (by omega)]
  have h0 : b.all (· == 0) = false := by
    cases b with
    | nil => cases h
    | cons x r =>
      injection h with h
      subst h
      rfl
  rw [h0, if_neg (by decide)]
  split
  · rename_i h1; exact h1
  · split
    · rename_i h1
      have := text_first (parseHD (bs (openB b).1))
      rw [h1.2, h] at this
      exact absurd this (by decide)
    · decide
theorem room_zero : (readR (zeroB 256).data.toList).2.2 ≠ 0 := by decide +kernel

/-- What a Sync of something leaves: a disk that is all safe. -/
theorem Run11.sync_calm {N c : Nat} {K : KD} {h : List ByteArray} (r : Run11 N K h c) (_ : c ≤ 1000) (hl : (pendL K).length ≤ 110) (hp : pendT K ≠ []) : ∃ s n, (syncK K).S = calm s n ∧ n ≤ 1000 * (c + 1) := by
  obtain ⟨s0, s, d, n, e, hs, hn, hd⟩ := r.still
  have hseq := hs.seq
  have hq := r.seq
  have hlen : s.length = N := hs.len
  have hl2 : (pendT K).length ≤ 110 := by rw [← pendL_length]; exact hl
  have hco := pend_ok r.ok ⟨hseq.1, by omega⟩ hp hl2
  have hR : commitR K.S K.seq K.k (pendL K) = ⟨Go.Proofs.YtdibeieiogagoaaGreatDoor.calm (doneS s K.seq (pendL K) (pendT K)) (n + (2 * (pendT K).length + 2)), K.seq + 1, true, K.k + 1, 0⟩ := by
    rw [e]
    exact warm_commit hco s0 s hlen d n K.k
  refine ⟨doneS s K.seq (pendL K) (pendT K), n + (2 * (pendT K).length + 2), ?_, ?_⟩
  · unfold syncK
    rw [if_neg (by omega), hR, if_pos rfl]
    rfl
  · omega
end Go.Proofs.YtdibeieiogagoaaGreatDoor
