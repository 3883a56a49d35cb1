/-
  Package mark's Hash, and the document's.
-/
import Derived.Test.YtpliknofjgbfjaaMarkSmall
import Derived.Test.YtpliknofjgbfjaaOneHex
namespace Go.Proofs.Ytpliknofjgbfjaa
open Go.RowKit

set_option maxHeartbeats 800000 in
theorem hash_any (k : Int) (s : ByteArray) (w : World) (hs : s.size ≤ 140737488351232) :
    Calls Try.prog 6 #[.agg #[.int .i64 k, .string s]] w fun e w' => e = .returned (.int .i64 (hashK s)) ∧ Below w.heap.size w w' := by
  by_cases h2 : s.size < 2
  · have e : hashK s = 0 := if_pos h2
    rw [e]
    clear e
    go_enter Try.func6, Try.ntmps6
    go_wp2
    go_ret
    exact ⟨rfl, (Below.refl _ _).alloc (Nat.le_refl _) _⟩
  · have h2' : 2 ≤ s.size := by omega
    have hl := hashK_low h2'
    have hz : (s.extract 0 2).size = 2 := by simp; omega
    have hd : (s.extract 0 2).data.toList = s.data.toList.take 2 := by simp
    have HL := Lib.hid hl
    obtain ⟨t, ht⟩ : ∃ t, t = s.extract 0 2 := ⟨_, rfl⟩
    rw [← ht] at hz hd
    have HN : Hid ((Rd.num ⟨t, 0⟩ 2).1 = hashK s) := Lib.hid (by
      have hk : Rd.take ⟨t, 0⟩ ((2 : Nat) : Int) = (t.extract 0 2, true, ⟨t.extract 2 t.size, 0⟩) := by
        unfold Rd.take
        rw [if_neg (by simp), if_neg (by omega), if_neg (by show ¬ (t.size : Int) < _; omega)]
        rfl
      have hf : t.extract 0 2 = t := by
        apply ByteArray.ext
        simp
        omega
      have hlt := low_lt (s.data.toList.take 2)
      have hlen : (s.data.toList.take 2).length = 2 := by rw [List.length_take, ← Lib.size_eq]; omega
      rw [hlen] at hlt
      unfold Rd.num
      rw [hk]
      simp only [if_true, hf, hd]
      rw [if_neg (by omega)]
      exact hl.symm)
    have HT := Lib.hid ht
    clear h2 hl hd ht
    go_enter Try.func6, Try.ntmps6
    go_wp2_with fail
    rw [← HT.out]
    refine (on_any t _ (by omega)).mono ?_
    rintro e w1 ⟨g, rfl, hg, hin, hb⟩
    go_wp2_with (go_at_call 16; refine (in_half g _ _ hin (by simp only; omega)).mono ?_; rintro e w2 ⟨rfl, h2, hg2⟩)
    go_ret
    have k1 : Below w.heap.size w w1 := ((Below.refl _ _).alloc (Nat.le_refl _) _).trans (hb.mono (by simp))
    exact ⟨by rw [← HN.out]; rfl, below_by_new k1 hg2 (by simp at hg; omega)⟩

theorem index_at (w : World) (s : ByteArray) (j : Nat) (h : j < s.size) : (Instr.index 9 (.string s) (.int .i64 (j : Int))).run Try.prog w = .ok (.int .u8 ((s.data.toList.getD j 0).toNat : Int)) w := by
  refine index_text w s j _ ?_
  have hl : j < s.data.toList.length := by rw [← Lib.size_eq]; exact h
  rw [List.getD_eq_getElem?_getD, List.getElem?_eq_getElem hl]
  show s[j]? = some (s.data.toList[j])
  rw [getElem?_pos s j h]
  rfl

set_option maxHeartbeats 800000 in
theorem refhash_any (k : Int) (s : ByteArray) (w : World) (hs : s.size ≤ 140737488351232) :
    Calls Try.prog 7 #[.agg #[.int .i64 k, .string s]] w fun e w' => e = .returned (.int .i64 (hashK s)) ∧ Below w.heap.size w w' := by
  by_cases h2 : s.size < 2
  · have e : hashK s = 0 := if_pos h2
    rw [e]
    clear e
    go_enter Try.func7, Try.ntmps7
    go_wp2
    go_ret
    exact ⟨rfl, (Below.refl _ _).alloc (Nat.le_refl _) _⟩
  · have h0 := fun w => index_at w s 0 (by omega)
    have h1 := fun w => index_at w s 1 (by omega)
    have HE := Lib.hid (show hashK s = _ from if_neg h2)
    have b0 := (s.data.toList.getD 0 0).toNat_lt
    have b1 := (s.data.toList.getD 1 0).toNat_lt
    generalize (s.data.toList.getD 0 0).toNat = x at *
    generalize (s.data.toList.getD 1 0).toNat = y at *
    simp only [Int.natCast_zero, Int.natCast_one] at h0 h1
    go_enter Try.func7, Try.ntmps7
    go_wp2_with fail
    go_quiet (fail)
    go_wp2_with fail
    go_ret
    exact ⟨by rw [HE.out]; rfl, below_drewN ((Below.refl _ _).alloc (Nat.le_refl _) _) _⟩
end Go.Proofs.Ytpliknofjgbfjaa
