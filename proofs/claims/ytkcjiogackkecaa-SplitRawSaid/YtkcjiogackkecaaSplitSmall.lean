/-
  Package split's small calls: Even, Uneven, Of, the order of spans; the document's own Cut of a form. No statement is proved here.
-/
import Derived.Test.YtkcjiogackkecaaSplitPure
import Derived.Test.YtkcjiogackkecaaCdcAlive
namespace Go.Proofs.Ytkcjiogackkecaa
open Go.RowKit

set_option maxRecDepth 100000 in
set_option maxHeartbeats 1000000 in
theorem evnext_any (n : Int) (s : ByteArray) (w : World) :
    Calls Try.prog 23 #[.agg #[.int .i64 n], .string s] w fun e w' => e = .returned (.int .i64 (max 0 (min n (s.size : Int)))) ∧ Below w.heap.size w w' := by
  have HB1 : Hid (Below w.heap.size w (w.alloc (.cells #[.int .i64 n] 44))) := Lib.hid ((Below.refl _ _).alloc (Nat.le_refl _) _)
  go_enter Try.func23, Try.ntmps23
  go_wp2_with fail
  go_ret
  exact ⟨by simp, HB1.out⟩
set_option maxRecDepth 100000 in
set_option maxHeartbeats 1000000 in
theorem compare_any (x y : Int) (w : World) :
    Calls Try.prog 103 #[.int .i64 x, .int .i64 y] w fun e w' => e = .returned (.int .i64 (if x < y then -1 else if y < x then 1 else 0)) ∧ w' = w := by
  rcases Int.lt_trichotomy x y with h | h | h
  · rw [if_pos h]
    go_enter Try.func103, Try.ntmps103
    go_wp2
    go_ret
    exact ⟨rfl, rfl⟩
  · subst h
    rw [if_neg (by omega), if_neg (by omega)]
    go_enter Try.func103, Try.ntmps103
    go_wp2
    go_ret
    exact ⟨rfl, rfl⟩
  · rw [if_neg (by omega), if_pos h]
    have h2 : ¬ x < y := by omega
    go_enter Try.func103, Try.ntmps103
    go_wp2
    go_ret
    exact ⟨rfl, rfl⟩
set_option maxRecDepth 100000 in
set_option maxHeartbeats 1000000 in
theorem begins_any (a b p : Int) (w : World) :
    Calls Try.prog 83 #[.agg #[.int .i64 a, .int .i64 b], .int .i64 p] w fun e w' => e = .returned (.int .i64 (if a < p then -1 else if p < a then 1 else 0)) ∧ Below w.heap.size w w' := by
  have HB1 : Hid (Below w.heap.size w (w.alloc (.cells #[.int .i64 a, .int .i64 b] 36))) := Lib.hid ((Below.refl _ _).alloc (Nat.le_refl _) _)
  obtain ⟨q, hq⟩ : ∃ q : Int, q = (if a < p then -1 else if p < a then 1 else 0) := ⟨_, rfl⟩
  have HC := Lib.hid (compare_any a p)
  rw [← hq] at HC ⊢
  clear hq
  go_enter Try.func83, Try.ntmps83
  go_wp2_with fail
  refine (HC.out _).mono ?_
  rintro e w2 ⟨rfl, rfl⟩
  go_wp2_with fail
  go_ret
  exact ⟨rfl, HB1.out⟩
set_option maxRecDepth 100000 in
set_option maxHeartbeats 1000000 in
theorem evcut_any (n : Int) (A : Option Addr) (m c : Nat) (xs : List ByteArray) (w : World) (hn : -9223372036854775808 ≤ n ∧ n ≤ 9223372036854775807) (hm : xs.length = m) (hx : Txts w w.heap.size A xs) (hl : m ≤ 1000000) (hs : (cats xs).length ≤ 1000000) :
    Calls Try.prog 21 #[.agg #[.int .i64 n], .slice A m c] w fun e w' => ∃ p cap, e = .returned (.slice p (cutS n (cats xs).length).length cap) ∧ w'.ownsRow w.heap.size 36 2 (.slice p (cutS n (cats xs).length).length cap) (cutS n (cats xs).length).length (flatS (cutS n (cats xs).length)) ∧ Below w.heap.size w w' := by
  have HB1 : Hid (Below w.heap.size w (w.alloc (.cells #[.int .i64 n] 44))) := Lib.hid ((Below.refl _ _).alloc (Nat.le_refl _) _)
  have HC := Lib.hid (fcut_any n A m c xs (w.alloc (.cells #[.int .i64 n] 44)) hn hm ((hx.below HB1.out).more HB1.out.size) hl hs)
  clear hx hm hl hs hn
  go_enter Try.func21, Try.ntmps21
  go_wp2_with fail
  refine HC.out.mono ?_
  rintro e w2 ⟨p, cap, rfl, hown, hb⟩
  have HO := Lib.hid (row_lower hown HB1.out.size)
  have HB2 := Lib.hid (HB1.out.trans (hb.mono HB1.out.size))
  clear hown hb
  go_wp2_with fail
  go_ret
  exact ⟨p, cap, rfl, HO.out, HB2.out⟩
set_option maxRecDepth 100000 in
set_option maxHeartbeats 1000000 in
theorem unnext_any (R : RuleN) (s : ByteArray) (w : World) (hs : s.size ≤ 140737488351232) :
    Calls Try.prog 17 #[R.val, .string s] w fun e w' => e = .returned (.int .i64 (firstL R s.data.toList : Int)) ∧ Below w.heap.size w w' := by
  obtain ⟨F, hF⟩ : ∃ F, F = firstL R s.data.toList := ⟨_, rfl⟩
  have HF := Lib.hid (fun w' => cfirst_any R s w' hs)
  rw [← hF] at HF ⊢
  clear hF hs
  obtain ⟨a, b, c, d, e⟩ := R
  have HB1 : Hid (Below w.heap.size w (w.alloc (.cells #[.int .i64 a, .int .i64 b, .int .i64 c, .int .i64 d, .int .i64 e] 42))) := Lib.hid ((Below.refl _ _).alloc (Nat.le_refl _) _)
  unfold RuleN.val at HF ⊢
  simp only at HF ⊢
  go_enter Try.func17, Try.ntmps17
  go_wp2_with fail
  refine (HF.out _).mono ?_
  rintro e w2 ⟨rfl, hb⟩
  have HB2 := Lib.hid (HB1.out.trans (hb.mono HB1.out.size))
  clear hb
  go_wp2_with fail
  go_ret
  exact ⟨rfl, HB2.out⟩

/-- The rule of a form, and its cutter. -/
def ruleOf (gen : Int) : RuleN := if gen = 1 then e64 else dfl
theorem ruleOf_ok (gen : Int) : (ruleOf gen).ok = true := by
  unfold ruleOf
  split
  · exact e64_ok
  · exact dfl_ok
def cutterV (gen : Int) : Value := if gen = 1 then .iface 44 (.agg #[.int .i64 64]) else .iface 42 dfl.val
def ofV (gen : Int) : Array Value := if 1 ≤ gen ∧ gen ≤ 3 then #[cutterV gen, .int .i64 0] else #[.nilIface, .int .i64 1]
theorem ofV_in {gen : Int} (h : 1 ≤ gen ∧ gen ≤ 3) : ofV gen = #[cutterV gen, .int .i64 0] := if_pos h
theorem ofV_out {gen : Int} (h : ¬ (1 ≤ gen ∧ gen ≤ 3)) : ofV gen = #[.nilIface, .int .i64 1] := if_neg h
set_option maxRecDepth 100000 in
set_option maxHeartbeats 1000000 in
theorem of_any (gen : Int) (w : World) :
    Calls Try.prog 12 #[.int .i64 gen] w fun e w' => e = .returned (.tuple (ofV gen)) ∧ Below w.heap.size w w' := by
  have HD := Lib.hid default_any
  by_cases h1 : gen = 1
  · subst h1
    rw [ofV_in (by omega), cutterV, if_pos rfl]
    go_enter Try.func12, Try.ntmps12
    go_wp2_with fail
    go_ret2
    exact ⟨rfl, Below.refl _ _⟩
  · by_cases h2 : gen = 2
    · subst h2
      rw [ofV_in (by omega), cutterV, if_neg (by omega)]
      go_enter Try.func12, Try.ntmps12
      go_wp2_with fail
      refine (HD.out _).mono ?_
      rintro e w2 ⟨rfl, hb⟩
      have HB := Lib.hid hb
      clear hb
      go_wp2_with fail
      go_ret2
      exact ⟨rfl, HB.out⟩
    · by_cases h3 : gen = 3
      · subst h3
        rw [ofV_in (by omega), cutterV, if_neg (by omega)]
        go_enter Try.func12, Try.ntmps12
        go_wp2_with fail
        refine (HD.out _).mono ?_
        rintro e w2 ⟨rfl, hb⟩
        have HB := Lib.hid hb
        clear hb
        go_wp2_with fail
        go_ret2
        exact ⟨rfl, HB.out⟩
      · rw [ofV_out (by omega)]
        go_enter Try.func12, Try.ntmps12
        go_wp2_with fail
        go_ret2
        exact ⟨rfl, Below.refl _ _⟩
set_option maxRecDepth 100000 in
set_option maxHeartbeats 1000000 in
theorem rrule_var {W : World} {b : Nat} {a1 a2 a3 a4 a5 : Value} (hb : Blk W b 40 #[a1, a2, a3, a4, a5]) :
    (loadVar 40 ⟨b, 0, none⟩).run Try.prog W = .ok (.agg #[a1, a2, a3, a4, a5]) W :=
  run_var_part (off := 0) hb (fun j v h => by rw [Nat.zero_add]; exact h) (fun w => by kernel_rfl) (fun w => by kernel_rfl)
set_option maxRecDepth 100000 in
set_option maxHeartbeats 1000000 in
theorem rdefault_any (w : World) : Calls Try.prog 33 #[] w fun e w' => e = .returned dfl.val ∧ Below w.heap.size w w' := by
  go_enter Try.func33, Try.ntmps33
  go_wp2_with fail
  refine ret_cell rfl rfl (rrule_var (Blk.new w _ _)) rfl ?_
  exact ⟨rfl, (Below.refl _ _).alloc (Nat.le_refl _) _⟩
set_option maxRecDepth 100000 in
set_option maxHeartbeats 1000000 in
theorem refcut_any (gen : Int) (s : ByteArray) (w : World) (hs6 : s.size ≤ 1000000) :
    Calls Try.prog 13 #[.int .i64 gen, .string s] w fun e w' => ∃ p cap, e = .returned (.slice p (cutL (ruleOf gen) 0 s.data.toList).length cap) ∧ w'.ownsRow w.heap.size 36 2 (.slice p (cutL (ruleOf gen) 0 s.data.toList).length cap) (cutL (ruleOf gen) 0 s.data.toList).length (flatS (cutL (ruleOf gen) 0 s.data.toList)) ∧ Below w.heap.size w w' := by
  obtain ⟨K, hK⟩ : ∃ K, K = cutL (ruleOf gen) 0 s.data.toList := ⟨_, rfl⟩
  rw [← hK]
  by_cases h1 : gen = 1
  · subst h1
    have HF : Hid (Calls Try.prog 22 #[.int .i64 64, .int .i64 (s.size : Int)] w fun e w' => ∃ p cap, e = .returned (.slice p K.length cap) ∧ w'.ownsRow w.heap.size 36 2 (.slice p K.length cap) K.length (flatS K) ∧ Below w.heap.size w w') := Lib.hid (by
      have h := rfixed_any 64 s.size w (by omega) hs6
      rw [show s.size = s.data.toList.length from Lib.size_eq s, cutS_64, show cutL e64 0 s.data.toList = K from hK.symm] at h
      rw [show s.size = s.data.toList.length from Lib.size_eq s]
      exact h)
    clear hK
    go_enter Try.func13, Try.ntmps13
    go_wp2_with fail
    refine HF.out.mono ?_
    rintro e w2 ⟨p, cap, rfl, hown, hb⟩
    have HO := Lib.hid hown
    have HB2 := Lib.hid hb
    clear hown hb
    go_wp2_with fail
    go_ret
    exact ⟨p, cap, rfl, HO.out, HB2.out⟩
  · have HD := Lib.hid rdefault_any
    have hR : ruleOf gen = dfl := if_neg h1
    rw [hR] at hK
    have HR := Lib.hid (fun w' => rcut_any dfl s w' hs6)
    rw [← hK] at HR
    clear hK hR
    unfold RuleN.val dfl at HD HR
    simp only at HD HR
    go_enter Try.func13, Try.ntmps13
    go_wp2_with fail
    refine (HD.out _).mono ?_
    rintro e w1 ⟨rfl, hb1⟩
    have HB1 := Lib.hid hb1
    clear hb1
    go_wp2_with fail
    refine (HR.out _).mono ?_
    rintro e w2 ⟨p, cap, rfl, hown, hb⟩
    have HO := Lib.hid (row_lower hown HB1.out.size)
    have HB2 := Lib.hid (HB1.out.trans (hb.mono HB1.out.size))
    clear hown hb
    go_wp2_with fail
    go_ret
    exact ⟨p, cap, rfl, HO.out, HB2.out⟩
set_option maxRecDepth 100000 in
set_option maxHeartbeats 1000000 in
theorem rsame_any (A B : Option Addr) (m c d : Nat) (xs : List (Int × Int)) (w : World) (hm : xs.length = m) (hx : Spans w w.heap.size A xs) (hy : Spans w w.heap.size B xs) (hl : m ≤ 1000000) :
    Calls Try.prog 30 #[.slice A m c, .slice B m d] w fun e w' => e = .returned (.bool true) ∧ ∃ n, w' = w.drewN n := by
  have HX := Lib.hid hx
  have HY := Lib.hid hy
  have HM := Lib.hid hm
  clear hx hm hy
  go_enter Try.func30, Try.ntmps30
  go_wp2_with fail
  go_loopw [5] (fun i wr => ∃ (j n : Nat), j ≤ m ∧ i = .int .i64 j ∧ wr = w.drewN n) (fun i _ => m - (intOf i).toNat)
  case atStart => exact ⟨0, 0, Nat.zero_le _, rfl, rfl⟩
  case round =>
    obtain ⟨j, n, hj, rfl, rfl⟩ := hrel
    by_cases hlt : j < m
    · have hxl : j < xs.length := by rw [HM.out]; exact hlt
      obtain ⟨b, off, hA, hbB, hc⟩ := HX.out (by omega)
      obtain ⟨b', off', hA', hbB', hc'⟩ := HY.out (by omega)
      obtain ⟨x, hx⟩ : ∃ x, x = xs[j] := ⟨_, rfl⟩
      have hxj : xs[j]? = some x := by rw [hx]; exact List.getElem?_eq_getElem hxl
      obtain ⟨d0, d1⟩ := hc j x hxj
      obtain ⟨d2, d3⟩ := hc' j x hxj
      obtain ⟨xa, xs'⟩ := x
      simp only at d0 d1 d2 d3
      clear hxj hc hx hc'
      subst hA
      subst hA'
      go_wp2_with fail
      go_quiet (fail)
      go_wp2_with fail
      go_roundw
      case rel => exact ⟨j + 1, _, by omega, by go_num, rfl⟩
      case measure => simp [intOf]; omega
    · obtain rfl : j = m := by omega
      go_wp2_with fail
      go_ret
      exact ⟨rfl, _, rfl⟩
end Go.Proofs.Ytkcjiogackkecaa
