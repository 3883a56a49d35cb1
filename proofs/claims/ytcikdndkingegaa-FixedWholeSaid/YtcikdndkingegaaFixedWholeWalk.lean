/-
  FixedWhole, walked. No statement is proved here.
-/
import Derived.Test.YtcikdndkingegaaFixedAlive
import Derived.Test.YtcikdndkingegaaSpanPut
namespace Go.Proofs.Ytcikdndkingegaa
open Go.RowKit

theorem wholeEnd_split (l : List (Int × Int)) (r : Nat) (x : Int × Int) (h : l[r]? = some x) : wholeEnd l = (l.drop (r + 1)).foldl wstep (wstep (wholeEnd (l.take r)) x) := by
  rw [← wholeEnd_snoc h]
  unfold wholeEnd
  rw [← List.foldl_append, List.take_append_drop]
/-- A span that ends one byte later, and all that stands behind it as it was: no longer whole. -/
theorem whole_grown {l : List (Int × Int)} {r : Nat} {x0 x1 E : Int} (h : wholeEnd l = some E) (hr : l[r]? = some (x0, x1)) : wholeB E (l.set r (x0, x1 + 1)) = false := by
  have hlt : r < l.length := by
    rcases Nat.lt_or_ge r l.length with h | h
    · exact h
    · rw [List.getElem?_eq_none h] at hr; cases hr
  have e1 := wholeEnd_split l r _ hr
  have e2 := wholeEnd_split (l.set r (x0, x1 + 1)) r (x0, x1 + 1) (List.getElem?_set_self hlt)
  have t1 : (l.set r (x0, x1 + 1)).take r = l.take r := List.take_set_of_le (Nat.le_refl _)
  have t2 : (l.set r (x0, x1 + 1)).drop (r + 1) = l.drop (r + 1) := List.drop_set_of_lt (by omega)
  rw [t1, t2] at e2
  unfold wholeB
  rw [e2]
  rw [h] at e1
  cases ha : wholeEnd (l.take r) with
  | none => rw [ha] at e1; simp only [wstep, Option.bind_none] at e1; rw [wfold_none] at e1; cases e1
  | some a =>
    rw [ha] at e1
    simp only [wstep, Option.bind_some] at e1 ⊢
    by_cases hb : x0 ≠ a ∨ x1 ≤ a
    · rw [if_pos hb, wfold_none] at e1; cases e1
    · rw [if_neg hb] at e1
      rw [if_neg (by omega)]
      generalize l.drop (r + 1) = rest at e1 ⊢
      cases rest with
      | nil =>
        simp only [List.foldl_nil] at e1 ⊢
        injection e1 with e1
        subst e1
        simp only [beq_eq_false_iff_ne, ne_eq, Option.some.injEq]
        omega
      | cons y q =>
        rw [List.foldl_cons] at e1 ⊢
        simp only [wstep, Option.bind_some] at e1 ⊢
        by_cases hy : y.1 ≠ x1 ∨ y.2 ≤ x1
        · rw [if_pos hy] at e1
          rw [wfold_none] at e1
          cases e1
        · rw [if_pos (by omega)]
          rw [wfold_none]
          rfl
theorem flatS_grown {l : List (Int × Int)} {r : Nat} {x0 x1 y : Int} (hr : l[r]? = some (x0, x1)) : (flatS l).set (r * 2 + 1) (.int .i64 y) = flatS (l.set r (x0, y)) := by
  rw [flatS_set]
  have h := (flatS_get hr).1
  rw [Nat.mul_comm 2 r] at h
  have e : (flatS l).set (r * 2) (.int .i64 x0) = flatS l := by
    apply List.ext_getElem?
    intro i
    rw [List.getElem?_set]
    split
    · rename_i hi
      subst hi
      split
      · exact h.symm
      · rw [List.getElem?_eq_none (by omega)]
    · rfl
  rw [e]

set_option maxRecDepth 100000 in
set_option maxHeartbeats 8000000 in
theorem fwholelaw_in (k : Nat) (s : ByteArray) (at' : Nat) (w : World) (hk : 1 ≤ k ∧ k ≤ 2000) (hs : s.size ≤ 1500) (ha : at' ≤ 9223372036854775807) :
    Calls Try.prog 4 #[.int .i64 (k : Int), .string s, .int .i64 (at' : Int)] w fun e w' => e = .returned (.bool true) ∧ Below w.heap.size w w' := by
  obtain ⟨i0, hi, hz0, hz1, hz2⟩ := info_parts hspans_info
  obtain ⟨S, hS⟩ : ∃ S, S = s.size := ⟨_, rfl⟩
  obtain ⟨M, hM⟩ : ∃ M, M = manyOf k S := ⟨_, rfl⟩
  obtain ⟨l, hl⟩ : ∃ l, l = cutS (k : Int) S := ⟨_, rfl⟩
  have hlc : l = cutJ k S M := by rw [hl, hM]; unfold cutS; rw [if_neg (by omega), Int.toNat_natCast]
  have hll : l.length = M := by rw [hlc, cutJ_len]
  have hM1 : M ≤ 1500 := by have := many_few (size := S) hk.1; omega
  have hor : M = 0 ∨ (M - 1) * k < S := by
    rcases Nat.eq_zero_or_pos M with e | e
    · exact .inl e
    · exact .inr (many_lt hk.1 (by omega))
  have HWE : Hid (wholeEnd l = some (S : Int)) := Lib.hid (by rw [hl]; exact cutS_whole _ _ (by omega))
  have HJO : Hid (joinL s l = s.data.toList) := Lib.hid (by
    have h := joinL_cut s k hk.1 M (by rw [← hS]; exact hor)
    rw [← hS] at h
    rw [hlc, h]
    have := many_le (m := k) (size := S) hk.1
    rw [← hM] at this
    rw [Nat.min_eq_right this, List.take_of_length_le (by rw [← Lib.size_eq, hS]; exact Nat.le_refl _)])
  have HOKS : Hid (l.all (okSp s.size) = true) := Lib.hid (by rw [hlc, ← hS]; exact cutJ_ok hor)
  have HLC := Lib.hid hlc
  have HLL := Lib.hid hll
  have HCATS : Hid ((cats [s]).length = S) := Lib.hid (by rw [cats_one, ← Lib.size_eq, hS])
  have hdiv : Int.tdiv ((S : Int) + (k : Int) - 1) (k : Int) = (M : Int) := by
    rw [show (S : Int) + (k : Int) - 1 = ((S + k - 1 : Nat) : Int) by omega, hM]
    unfold manyOf
    exact (Int.ofNat_tdiv _ _).symm
  have hsz : (s.size : Int) = (S : Int) := by rw [hS]
  have HSZ := Lib.hid hS
  have HL := Lib.hid hl
  have hk1 : ¬ (k : Int) < 1 := by omega
  have hk2 : ¬ (2000 : Int) < (k : Int) := by omega
  have hk3 : (k : Int) ≠ 0 := by omega
  have hs1 : S ≤ 1500 := by omega
  have hs2 : ¬ (1500 : Int) < (S : Int) := by omega
  have ha1 : ¬ (at' : Int) < 0 := by omega
  clear hS hM hl hlc hll hor
  go_enter Try.func4, Try.ntmps4
  go_wp2_with fail
  refine (alive13_any _).mono ?_
  rintro e w1 ⟨rfl, hb1⟩
  have HB1 := Lib.hid hb1
  clear hb1
  obtain ⟨w1', hw1⟩ : ∃ w', w' = w1.alloc (.cells #[.string s] 9) := ⟨_, rfl⟩
  have HB1' : Hid (Below w.heap.size w w1') := Lib.hid (by rw [hw1]; exact HB1.out.alloc HB1.out.size _)
  have hcut := fcut_any (k : Int) (some ⟨w1.heap.size, 0, none⟩) 1 1 [s] w1' (by omega) rfl (by rw [hw1]; exact txts_at _ _ _ _ rfl rfl) (by omega) (by rw [HCATS.out]; omega)
  rw [HCATS.out, ← HL.out, HLL.out] at hcut
  have HCUT := Lib.hid hcut
  clear hcut
  go_wp2_with (go_at_call 11; rw [← hw1]; refine HCUT.out.mono ?_; rintro e w2 ⟨p, cap, rfl, hown, hb2⟩)
  have HOWN := Lib.hid hown
  have HB2 := Lib.hid (HB1'.out.trans (hb2.mono HB1'.out.size))
  have HSP : Hid (Spans w2 w2.heap.size p l) := Lib.hid (row_spans (by rw [HLL.out]; exact hown))
  have HJ := Lib.hid (fjoin_any s p M cap l w2 HLL.out HSP.out (by omega) (by have := HSZ.out; omega))
  rw [HOKS.out, HJO.out, if_pos rfl] at HJ
  clear hown hb2 hw1
  go_wp2_with fail
  refine HJ.out.mono ?_
  rintro e w3 ⟨rfl, hb3⟩
  have HSTR : Hid ((⟨s.data.toList.toArray⟩ : ByteArray) = s) := Lib.hid (by cases s; simp)
  rw [HSTR.out]
  have HB3 := Lib.hid (HB2.out.trans (hb3.mono HB2.out.size))
  have HSP3 : Hid (Spans w3 w3.heap.size p l) := Lib.hid ((HSP.out.below hb3).more hb3.size)
  have HB23 := Lib.hid hb3
  have HW1 := Lib.hid (fwhole_any (S : Int) p M cap l w3 HLL.out HSP3.out (by omega))
  rw [show wholeB (S : Int) l = true by unfold wholeB; rw [HWE.out]; simp] at HW1
  clear hb3 HJ
  have hself : (s.toList == s.toList) = true := by simp
  go_wp2_with fail
  refine HW1.out.mono ?_
  rintro e w4 ⟨rfl, hb4⟩
  have HB4 := Lib.hid (HB3.out.trans (hb4.mono HB3.out.size))
  have HSP4 : Hid (Spans w4 w4.heap.size p l) := Lib.hid ((HSP3.out.below hb4).more hb4.size)
  have HB24 := Lib.hid (HB23.out.trans (hb4.mono HB23.out.size))
  have HW2 := Lib.hid (fwhole_any ((S : Int) + 1) p M cap l w4 HLL.out HSP4.out (by omega))
  rw [show wholeB ((S : Int) + 1) l = false by unfold wholeB; rw [HWE.out]; simp; omega] at HW2
  clear hb4 HW1
  go_wp2_with fail
  refine HW2.out.mono ?_
  rintro e w5 ⟨rfl, hb5⟩
  have HB5 := Lib.hid (HB4.out.trans (hb5.mono HB4.out.size))
  have HSP5 : Hid (Spans w5 w5.heap.size p l) := Lib.hid ((HSP4.out.below hb5).more hb5.size)
  have HB25 := Lib.hid (HB24.out.trans (hb5.mono HB24.out.size))
  clear hb5 HW2
  rcases Nat.eq_zero_or_pos M with hM0 | hM0
  · subst hM0
    go_wp2_with fail
    go_ret
    exact ⟨rfl, HB5.out⟩
  · obtain ⟨r, hr⟩ : ∃ r, r = at' % M := ⟨_, rfl⟩
    have hrM : r < M := by rw [hr]; exact Nat.mod_lt _ hM0
    have hrem : Int.tmod (at' : Int) (M : Int) = (r : Int) := by rw [hr]; exact (Int.ofNat_tmod _ _).symm
    have hMne : (M : Int) ≠ 0 := by omega
    have hrI : (r : Int) < (M : Int) := by omega
    obtain ⟨x0, x1, hx⟩ := spans_get HLL.out hrM
    have hx1 : x1 ≤ 1500 ∧ 0 ≤ x1 := by
      have h := hx
      rw [HLC.out, cutJ_get hrM] at h
      injection h with h
      injection h with h3 h4
      omega
    have HX := Lib.hid hx
    obtain ⟨bp, rfl⟩ : ∃ bp, p = some ⟨bp, 0, none⟩ := by
      obtain ⟨pp, cc, ee, -, -, h0, ha⟩ := krow_form HOWN.out
      injection ee with ee _ _
      subst ee
      rcases p with _ | a
      · exact absurd (h0 rfl) (by omega)
      · exact ⟨a.block, by rw [← ha a rfl]⟩
    have HNEWS : Hid (∀ (j : Nat) (u : Value), (flatS l)[j]? = some u → w5.cell? ((⟨bp, 0, none⟩ : Addr).add j) = some u) := Lib.hid (fun j u hu => by
      rw [Go.WideShapes.add_plain, Nat.zero_add]
      have hlt := (HOWN.out.lt bp rfl).2
      exact (HB25.out.cell (p := ⟨bp, j, none⟩) hlt).trans (krow_cell HOWN.out hu))
    have HLEN : Hid ((flatS l).length = M * 2) := Lib.hid (by rw [flatS_len, HLL.out])
    have hwrap : IntKind.i64.wrap (x1 + 1) = x1 + 1 := by rw [IntKind.wrap_i64]; omega
    clear hr hx
    go_wp2_with (at_builtin; refine wpList_append_own _ rfl _ _ 23 rfl w5.heap.size 47 i0 (.agg #[.int .i64 0, .int .i64 0]) 2 16 Try.underlying23 hi hz0 hz1 hz2 rfl (by omega) (.slice none 0 0) 0 [] rfl (World.ownsRow_nil _ _ _ _) ⟨bp, 0, none⟩ M cap (flatS l) rfl HLEN.out HNEWS.out (flatS_one) (by unfold maxLen; omega) (by omega) (Nat.le_refl _) ?_; intro v6 w6 hown6 hg6 _)
    have hb6 : Below w5.heap.size w5 w6 := (Below.refl _ _).grown hg6 (Nat.le_refl _) (by simp [Value.ownBlock])
    rw [List.nil_append, Nat.zero_add] at hown6
    obtain ⟨q, cq, rfl, -, -, hq0, hqa⟩ := krow_form hown6
    obtain ⟨gq, rfl⟩ : ∃ gq, q = some ⟨gq, 0, none⟩ := by
      rcases q with _ | a
      · exact absurd (hq0 rfl) (by omega)
      · exact ⟨a.block, by rw [← hqa a rfl]⟩
    have hgx := flatS_get HX.out
    rw [Nat.mul_comm 2 r] at hgx
    have c1 : w6.cell? ⟨gq, r * 2 + 1, none⟩ = some (.int .i64 x1) := krow_cell hown6 hgx.2
    have f1 : w6.frozen? ⟨gq, r * 2 + 1, none⟩ = false := krow_frozen hown6 _
    obtain ⟨w7, hw7⟩ : ∃ w', w' = w6.setCell ⟨gq, r * 2 + 1, none⟩ (.int .i64 (x1 + 1)) := ⟨_, rfl⟩
    have hown7 : w7.ownsRow w5.heap.size 47 2 (.slice (some ⟨gq, 0, none⟩) M cq) M (flatS (l.set r (x0, x1 + 1))) := by
      rw [hw7, ← flatS_grown HX.out]
      exact krow_put hown6 _
    have hb7 : Below w5.heap.size w5 w7 := by rw [hw7]; exact hb6.setCell (hown6.lt gq rfl).1 _
    have HB7 := Lib.hid (HB5.out.trans (hb7.mono HB5.out.size))
    have HSP7 : Hid (Spans w7 w7.heap.size (some ⟨bp, 0, none⟩) l) := Lib.hid ((HSP5.out.below hb7).more hb7.size)
    have HLS : Hid ((l.set r (x0, x1 + 1)).length = M) := Lib.hid (by rw [List.length_set, HLL.out])
    have HSQ : Hid (Spans w7 w7.heap.size (some ⟨gq, 0, none⟩) (l.set r (x0, x1 + 1))) := Lib.hid (row_spans (by rw [HLS.out]; exact hown7))
    have HW3 := Lib.hid (fwhole_any (S : Int) (some ⟨gq, 0, none⟩) M cq (l.set r (x0, x1 + 1)) w7 HLS.out HSQ.out (by omega))
    rw [whole_grown HWE.out HX.out] at HW3
    clear hown6 hg6 hb6 hq0 hqa hgx hown7 hb7
    have HW7 := Lib.hid hw7
    clear hw7
    go_wp2_with fail
    go_simp
    go_wp2_with (go_at_call 15; rw [← HW7.out]; refine HW3.out.mono ?_; rintro e w8 ⟨rfl, hb8⟩)
    have HB8 := Lib.hid (HB7.out.trans (hb8.mono HB7.out.size))
    have HSP8 : Hid (Spans w8 w8.heap.size (some ⟨bp, 0, none⟩) l) := Lib.hid ((HSP7.out.below hb8).more hb8.size)
    have HW4 := Lib.hid (rwhole_any (S : Int) (some ⟨bp, 0, none⟩) M cap l w8 HLL.out HSP8.out (by omega))
    rw [show wholeB (S : Int) l = true by unfold wholeB; rw [HWE.out]; simp] at HW4
    clear hb8 c1 f1
    go_wp2_with fail
    refine HW4.out.mono ?_
    rintro e w9 ⟨rfl, rfl⟩
    go_wp2_with fail
    go_ret
    exact ⟨rfl, HB8.out⟩
set_option maxRecDepth 100000 in
set_option maxHeartbeats 4000000 in
theorem fwholelaw_out (n : Int) (s : ByteArray) (a : Int) (w : World) (hs : s.size ≤ 140737488351232) (ho : 1500 < s.size ∨ n < 1 ∨ 2000 < n ∨ a < 0) :
    Calls Try.prog 4 #[.int .i64 n, .string s, .int .i64 a] w fun e w' => e = .returned (.bool true) ∧ Below w.heap.size w w' := by
  have HA := Lib.hid alive13_any
  by_cases h1 : 1500 < s.size
  · have h1' : (1500 : Int) < (s.size : Int) := by omega
    clear ho
    go_enter Try.func4, Try.ntmps4
    go_wp2_with fail
    refine (HA.out _).mono ?_
    rintro e w1 ⟨rfl, hb1⟩
    go_wp2_with fail
    go_ret
    exact ⟨rfl, hb1⟩
  · have h1' : ¬ (1500 : Int) < (s.size : Int) := by omega
    by_cases h2 : n < 1
    · clear ho
      go_enter Try.func4, Try.ntmps4
      go_wp2_with fail
      refine (HA.out _).mono ?_
      rintro e w1 ⟨rfl, hb1⟩
      go_wp2_with fail
      go_ret
      exact ⟨rfl, hb1⟩
    · by_cases h3 : 2000 < n
      · clear ho
        go_enter Try.func4, Try.ntmps4
        go_wp2_with fail
        refine (HA.out _).mono ?_
        rintro e w1 ⟨rfl, hb1⟩
        go_wp2_with fail
        go_ret
        exact ⟨rfl, hb1⟩
      · have h4 : a < 0 := by omega
        clear ho
        go_enter Try.func4, Try.ntmps4
        go_wp2_with fail
        refine (HA.out _).mono ?_
        rintro e w1 ⟨rfl, hb1⟩
        go_wp2_with fail
        go_ret
        exact ⟨rfl, hb1⟩
theorem fwholelaw_any (n : Int) (s : ByteArray) (a : Int) (w : World) (hn : -9223372036854775808 ≤ n ∧ n ≤ 9223372036854775807) (hs : s.size ≤ 140737488351232) (ha : -9223372036854775808 ≤ a ∧ a ≤ 9223372036854775807) :
    Calls Try.prog 4 #[.int .i64 n, .string s, .int .i64 a] w fun e w' => e = .returned (.bool true) ∧ Below w.heap.size w w' := by
  by_cases ho : 1500 < s.size ∨ n < 1 ∨ 2000 < n ∨ a < 0
  · exact fwholelaw_out n s a w hs ho
  · obtain ⟨k, rfl⟩ : ∃ k : Nat, n = (k : Int) := ⟨n.toNat, by omega⟩
    obtain ⟨r, rfl⟩ : ∃ k : Nat, a = (k : Int) := ⟨a.toNat, by omega⟩
    exact fwholelaw_in k s r w (by omega) (by omega) (by omega)
end Go.Proofs.Ytcikdndkingegaa
