/-
  Package cdc's small calls, and the document's own Rule: Valid, mask, First. No statement is proved here.
-/
import Derived.Test.YtkcjiogackkecaaCdcPure
import Derived.Test.YtkcjiogackkecaaGearSmall
import Derived.Test.YtkcjiogackkecaaBytes
import Derived.Laws.BitsAllLaws
namespace Go.Proofs.Ytkcjiogackkecaa
open Go.RowKit

/-- A rule as a value. -/
def RuleN.val (R : RuleN) : Value := .agg #[.int .i64 R.mn, .int .i64 R.md, .int .i64 R.mx, .int .i64 R.hd, .int .i64 R.sf]
def RuleN.cells (R : RuleN) : Array Value := #[.int .i64 R.mn, .int .i64 R.md, .int .i64 R.mx, .int .i64 R.hd, .int .i64 R.sf]
/-- Its numbers are ints. -/
def RuleN.Fit (R : RuleN) : Prop := ∀ x ∈ [R.mn, R.md, R.mx, R.hd, R.sf], -9223372036854775808 ≤ x ∧ x ≤ 9223372036854775807

theorem RuleN.ok_no {R : RuleN} (h : ¬ (1 ≤ R.mn ∧ R.mn ≤ R.md ∧ R.md ≤ R.mx ∧ R.mx ≤ 4096 ∧ 0 ≤ R.hd ∧ R.hd ≤ 20 ∧ 0 ≤ R.sf ∧ R.sf ≤ 20)) : R.ok = false := by unfold RuleN.ok; exact decide_eq_false h
theorem RuleN.ok_yes {R : RuleN} (h : 1 ≤ R.mn ∧ R.mn ≤ R.md ∧ R.md ≤ R.mx ∧ R.mx ≤ 4096 ∧ 0 ≤ R.hd ∧ R.hd ≤ 20 ∧ 0 ≤ R.sf ∧ R.sf ≤ 20) : R.ok = true := by unfold RuleN.ok; exact decide_eq_true h
set_option maxRecDepth 100000 in
set_option maxHeartbeats 4000000 in
theorem cvalid_any (R : RuleN) (w : World) :
    Calls Try.prog 19 #[R.val] w fun e w' => e = .returned (.bool R.ok) ∧ Below w.heap.size w w' := by
  obtain ⟨a, b, c, d, e⟩ := R
  obtain ⟨V, hV⟩ : ∃ V, V = (RuleN.mk a b c d e).ok := ⟨_, rfl⟩
  rw [← hV]
  have HV := Lib.hid hV
  have HB1 : Hid (Below w.heap.size w (w.alloc (.cells #[.int .i64 a, .int .i64 b, .int .i64 c, .int .i64 d, .int .i64 e] 23))) := Lib.hid ((Below.refl _ _).alloc (Nat.le_refl _) _)
  clear hV
  unfold RuleN.val
  simp only
  go_enter Try.func19, Try.ntmps19
  by_cases h0 : 1 ≤ a
  case neg =>
    have HE : Hid (V = false) := Lib.hid (by rw [HV.out]; exact RuleN.ok_no (by simp only; omega))
    have hn : decide (1 ≤ a) = false := decide_eq_false h0
    clear h0
    go_wp2_with fail
    go_ret
    exact ⟨by rw [HE.out]; rfl, HB1.out⟩
  by_cases h1 : a ≤ b
  case neg =>
    have HE : Hid (V = false) := Lib.hid (by rw [HV.out]; exact RuleN.ok_no (by simp only; omega))
    have hn : decide (a ≤ b) = false := decide_eq_false h1
    clear h1
    go_wp2_with fail
    go_ret
    exact ⟨by rw [HE.out]; rfl, HB1.out⟩
  by_cases h2 : b ≤ c
  case neg =>
    have HE : Hid (V = false) := Lib.hid (by rw [HV.out]; exact RuleN.ok_no (by simp only; omega))
    have hn : decide (b ≤ c) = false := decide_eq_false h2
    clear h2
    go_wp2_with fail
    go_ret
    exact ⟨by rw [HE.out]; rfl, HB1.out⟩
  by_cases h3 : c ≤ 4096
  case neg =>
    have HE : Hid (V = false) := Lib.hid (by rw [HV.out]; exact RuleN.ok_no (by simp only; omega))
    have hn : decide (c ≤ 4096) = false := decide_eq_false h3
    clear h3
    go_wp2_with fail
    go_ret
    exact ⟨by rw [HE.out]; rfl, HB1.out⟩
  by_cases h4 : 0 ≤ d
  case neg =>
    have HE : Hid (V = false) := Lib.hid (by rw [HV.out]; exact RuleN.ok_no (by simp only; omega))
    have hn : decide (0 ≤ d) = false := decide_eq_false h4
    clear h4
    go_wp2_with fail
    go_ret
    exact ⟨by rw [HE.out]; rfl, HB1.out⟩
  by_cases h5 : d ≤ 20
  case neg =>
    have HE : Hid (V = false) := Lib.hid (by rw [HV.out]; exact RuleN.ok_no (by simp only; omega))
    have hn : decide (d ≤ 20) = false := decide_eq_false h5
    clear h5
    go_wp2_with fail
    go_ret
    exact ⟨by rw [HE.out]; rfl, HB1.out⟩
  by_cases h6 : 0 ≤ e
  case neg =>
    have HE : Hid (V = false) := Lib.hid (by rw [HV.out]; exact RuleN.ok_no (by simp only; omega))
    have hn : decide (0 ≤ e) = false := decide_eq_false h6
    clear h6
    go_wp2_with fail
    go_ret
    exact ⟨by rw [HE.out]; rfl, HB1.out⟩
  by_cases h7 : e ≤ 20
  case neg =>
    have HE : Hid (V = false) := Lib.hid (by rw [HV.out]; exact RuleN.ok_no (by simp only; omega))
    have hn : decide (e ≤ 20) = false := decide_eq_false h7
    clear h7
    go_wp2_with fail
    go_ret
    exact ⟨by rw [HE.out]; rfl, HB1.out⟩
  have HE : Hid (V = true) := Lib.hid (by rw [HV.out]; exact RuleN.ok_yes ⟨h0, h1, h2, h3, h4, h5, h6, h7⟩)
  go_wp2_with fail
  go_ret
  exact ⟨by rw [HE.out]; rfl, HB1.out⟩
set_option maxRecDepth 100000 in
set_option maxHeartbeats 4000000 in
theorem rvalid_any (R : RuleN) (w : World) :
    Calls Try.prog 20 #[R.val] w fun e w' => e = .returned (.bool R.ok) ∧ Below w.heap.size w w' := by
  obtain ⟨a, b, c, d, e⟩ := R
  obtain ⟨V, hV⟩ : ∃ V, V = (RuleN.mk a b c d e).ok := ⟨_, rfl⟩
  rw [← hV]
  have HV := Lib.hid hV
  have HB1 : Hid (Below w.heap.size w (w.alloc (.cells #[.int .i64 a, .int .i64 b, .int .i64 c, .int .i64 d, .int .i64 e] 40))) := Lib.hid ((Below.refl _ _).alloc (Nat.le_refl _) _)
  clear hV
  unfold RuleN.val
  simp only
  go_enter Try.func20, Try.ntmps20
  by_cases h0 : 1 ≤ a
  case neg =>
    have HE : Hid (V = false) := Lib.hid (by rw [HV.out]; exact RuleN.ok_no (by simp only; omega))
    have hn : decide (1 ≤ a) = false := decide_eq_false h0
    clear h0
    go_wp2_with fail
    go_ret
    exact ⟨by rw [HE.out]; rfl, HB1.out⟩
  by_cases h1 : a ≤ b
  case neg =>
    have HE : Hid (V = false) := Lib.hid (by rw [HV.out]; exact RuleN.ok_no (by simp only; omega))
    have hn : decide (a ≤ b) = false := decide_eq_false h1
    clear h1
    go_wp2_with fail
    go_ret
    exact ⟨by rw [HE.out]; rfl, HB1.out⟩
  by_cases h2 : b ≤ c
  case neg =>
    have HE : Hid (V = false) := Lib.hid (by rw [HV.out]; exact RuleN.ok_no (by simp only; omega))
    have hn : decide (b ≤ c) = false := decide_eq_false h2
    clear h2
    go_wp2_with fail
    go_ret
    exact ⟨by rw [HE.out]; rfl, HB1.out⟩
  by_cases h3 : c ≤ 4096
  case neg =>
    have HE : Hid (V = false) := Lib.hid (by rw [HV.out]; exact RuleN.ok_no (by simp only; omega))
    have hn : decide (c ≤ 4096) = false := decide_eq_false h3
    clear h3
    go_wp2_with fail
    go_ret
    exact ⟨by rw [HE.out]; rfl, HB1.out⟩
  by_cases h4 : 0 ≤ d
  case neg =>
    have HE : Hid (V = false) := Lib.hid (by rw [HV.out]; exact RuleN.ok_no (by simp only; omega))
    have hn : decide (0 ≤ d) = false := decide_eq_false h4
    clear h4
    go_wp2_with fail
    go_ret
    exact ⟨by rw [HE.out]; rfl, HB1.out⟩
  by_cases h5 : d ≤ 20
  case neg =>
    have HE : Hid (V = false) := Lib.hid (by rw [HV.out]; exact RuleN.ok_no (by simp only; omega))
    have hn : decide (d ≤ 20) = false := decide_eq_false h5
    clear h5
    go_wp2_with fail
    go_ret
    exact ⟨by rw [HE.out]; rfl, HB1.out⟩
  by_cases h6 : 0 ≤ e
  case neg =>
    have HE : Hid (V = false) := Lib.hid (by rw [HV.out]; exact RuleN.ok_no (by simp only; omega))
    have hn : decide (0 ≤ e) = false := decide_eq_false h6
    clear h6
    go_wp2_with fail
    go_ret
    exact ⟨by rw [HE.out]; rfl, HB1.out⟩
  by_cases h7 : e ≤ 20
  case neg =>
    have HE : Hid (V = false) := Lib.hid (by rw [HV.out]; exact RuleN.ok_no (by simp only; omega))
    have hn : decide (e ≤ 20) = false := decide_eq_false h7
    clear h7
    go_wp2_with fail
    go_ret
    exact ⟨by rw [HE.out]; rfl, HB1.out⟩
  have HE : Hid (V = true) := Lib.hid (by rw [HV.out]; exact RuleN.ok_yes ⟨h0, h1, h2, h3, h4, h5, h6, h7⟩)
  go_wp2_with fail
  go_ret
  exact ⟨by rw [HE.out]; rfl, HB1.out⟩

theorem shl_u64 (n : Nat) (hn : n ≤ 20) : IntKind.u64.wrap (2 ^ n : Int) = ((2 ^ n : Nat) : Int) := by
  have h : (2 : Nat) ^ n ≤ 2 ^ 20 := Nat.pow_le_pow_right (by decide) hn
  obtain ⟨b, hb⟩ : ∃ b, b = (2 : Nat) ^ n := ⟨_, rfl⟩
  have e : ((2 : Int) ^ n) = (b : Int) := by rw [hb]; simp
  rw [IntKind.wrap_u64, e, ← hb]
  rw [← hb] at h
  omega
theorem mask_u64 (n : Nat) (hn : n ≤ 20) : IntKind.u64.wrap (IntKind.u64.wrap (2 ^ n : Int) - 1) = ((2 ^ n - 1 : Nat) : Int) := by
  have h : (2 : Nat) ^ n ≤ 2 ^ 20 := Nat.pow_le_pow_right (by decide) hn
  have h1 : 1 ≤ (2 : Nat) ^ n := Nat.one_le_two_pow
  rw [shl_u64 n hn]
  obtain ⟨b, hb⟩ : ∃ b, b = (2 : Nat) ^ n := ⟨_, rfl⟩
  rw [← hb] at h h1 ⊢
  rw [IntKind.wrap_u64]
  omega
theorem and_u64 (x n : Nat) (hx : x < 18446744073709551616) (hn : n ≤ 20) : bits .and .u64 ((x : Int) / 65536) ((2 ^ n - 1 : Nat) : Int) = ((x / 65536 % 2 ^ n : Nat) : Int) := by
  have h : (2 : Nat) ^ n ≤ 2 ^ 20 := Nat.pow_le_pow_right (by decide) hn
  rw [show (x : Int) / 65536 = ((x / 65536 : Nat) : Int) from (Int.natCast_ediv x 65536).symm, u64_and_nat _ _ (by omega) (by omega), Nat.and_two_pow_sub_one_eq_mod]
theorem RuleN.bits_le {R : RuleN} (h : R.ok = true) (a : Nat) : R.bits a ≤ 20 := by
  have := R.ok_parts h
  unfold RuleN.bits
  split <;> omega
set_option maxRecDepth 100000 in
set_option maxHeartbeats 4000000 in
theorem cmask_any (R : RuleN) (hok : R.ok = true) (at' : Nat) (w : World) :
    Calls Try.prog 80 #[R.val, .int .i64 (at' : Int)] w fun e w' => e = .returned (.int .u64 ((2 ^ R.bits at' - 1 : Nat) : Int)) ∧ Below w.heap.size w w' := by
  have hp := R.ok_parts hok
  obtain ⟨a, b, c, d, e⟩ := R
  simp only at hp
  obtain ⟨V, hV⟩ : ∃ V, V = (RuleN.mk a b c d e).bits at' := ⟨_, rfl⟩
  rw [← hV]
  obtain ⟨d', rfl⟩ := Int.eq_ofNat_of_zero_le hp.2.2.2.2.1
  obtain ⟨e', rfl⟩ := Int.eq_ofNat_of_zero_le hp.2.2.2.2.2.2.1
  have hd : d' ≤ 20 := by omega
  have he : e' ≤ 20 := by omega
  have HB1 : Hid (Below w.heap.size w (w.alloc (.cells #[.int .i64 a, .int .i64 b, .int .i64 c, .int .i64 d', .int .i64 e'] 23))) := Lib.hid ((Below.refl _ _).alloc (Nat.le_refl _) _)
  unfold RuleN.bits at hV
  simp only [Int.toNat_natCast] at hV
  clear hp hok
  unfold RuleN.val
  simp only
  by_cases h : (at' : Int) < b
  · rw [if_pos h] at hV
    have HV := Lib.hid hV
    have HM := Lib.hid (mask_u64 d' hd)
    clear hV he
    go_enter Try.func80, Try.ntmps80
    go_wp2_with fail
    go_ret
    exact ⟨by rw [HV.out, ← HM.out]; rfl, HB1.out⟩
  · rw [if_neg h] at hV
    have HV := Lib.hid hV
    have HM := Lib.hid (mask_u64 e' he)
    clear hV hd
    go_enter Try.func80, Try.ntmps80
    go_wp2_with fail
    go_ret
    exact ⟨by rw [HV.out, ← HM.out]; rfl, HB1.out⟩
end Go.Proofs.Ytkcjiogackkecaa
