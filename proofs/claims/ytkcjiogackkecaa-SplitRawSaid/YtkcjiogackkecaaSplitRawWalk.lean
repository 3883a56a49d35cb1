/-
  SplitRaw, walked. No statement is proved here.
-/
import Derived.Test.YtkcjiogackkecaaSplitFewWalk
import Derived.Test.YtkcjiogackkecaaSpansView
import Derived.BigQuiet
namespace Go.Proofs.Ytkcjiogackkecaa
open Go.RowKit

theorem span_eql_no {x0 x1 y0 y1 : Int} (w : World) (h : x0 ≠ y0 ∨ (x0 = y0 ∧ x1 ≠ y1)) : (binOp .eql 36 (.agg #[.int .i64 x0, .int .i64 x1]) (.agg #[.int .i64 y0, .int .i64 y1])).run Try.prog w = .ok (.bool false) w := by
  rcases h with h | ⟨rfl, h⟩
  · have h2 : (x0 == y0) = false := by simpa using h
    simp [go_sem, h2, Try.underlying36]
  · have h2 : (x1 == y1) = false := by simpa using h
    simp [go_sem, h2, Try.underlying36]
set_option maxRecDepth 100000 in
set_option maxHeartbeats 2000000 in
theorem ssome_any (A B : Option Addr) (m k c d : Nat) (xs ys : List (Int × Int)) (w : World) (hm : xs.length = m) (hk : ys.length = k) (hx : Spans w w.heap.size A xs) (hy : Spans w w.heap.size B ys) (hl : m ≤ 1000000) (hl2 : k ≤ 1000000) :
    Calls Try.prog 14 #[.slice A m c, .slice B k d] w fun e w' => ∃ r, e = .returned (.bool r) ∧ ∃ n, w' = w.drewN n := by
  have HX := Lib.hid hx
  have HY := Lib.hid hy
  have HM := Lib.hid hm
  have HK := Lib.hid hk
  clear hx hm hy hk
  by_cases hmk : m = k
  case neg =>
    have hb : ((m : Int) != (k : Int)) = true := by simp; omega
    clear hmk
    go_enter Try.func14, Try.ntmps14
    go_wp2_with fail
    go_ret
    exact ⟨_, rfl, 0, rfl⟩
  subst hmk
  go_enter Try.func14, Try.ntmps14
  go_wp2_with fail
  go_loopw [5] (fun i wr => ∃ (j n : Nat), j ≤ m ∧ i = .int .i64 j ∧ wr = w.drewN n) (fun i _ => m - (intOf i).toNat)
  case atStart => exact ⟨0, 0, Nat.zero_le _, rfl, rfl⟩
  case round =>
    obtain ⟨j, n, hj, rfl, rfl⟩ := hrel
    by_cases hlt : j < m
    · obtain ⟨b, off, hA, hbB, hc⟩ := HX.out (by rw [HM.out]; omega)
      obtain ⟨b', off', hA', hbB', hc'⟩ := HY.out (by rw [HK.out]; omega)
      obtain ⟨x0, x1, hxj⟩ := spans_get HM.out hlt
      obtain ⟨y0, y1, hyj⟩ := spans_get HK.out hlt
      obtain ⟨d0, d1⟩ := hc j _ hxj
      obtain ⟨d2, d3⟩ := hc' j _ hyj
      simp only at d0 d1 d2 d3
      clear hxj hc hyj hc'
      subst hA
      subst hA'
      by_cases he : x0 = y0
      · subst he
        by_cases he1 : x1 = y1
        · subst he1
          go_wp2_with fail
          go_quiet (fail)
          go_wp2_with fail
          go_roundw
          case rel => exact ⟨j + 1, _, by omega, by go_num, rfl⟩
          case measure => simp [intOf]; omega
        · have hn1 : (x1 == y1) = false := by simpa using he1
          have hcmp : ∀ w' : World, (binOp .eql 36 (.agg #[.int .i64 x0, .int .i64 x1]) (.agg #[.int .i64 x0, .int .i64 y1])).run Try.prog w' = .ok (.bool false) w' := fun w' => span_eql_no w' (.inr ⟨rfl, he1⟩)
          go_wp2_with fail
          go_quiet (fail)
          go_wp2_with fail
          go_ret
          exact ⟨_, rfl, n + nq, by rw [World.drewN_drewN]⟩
      · have hn1 : (x0 == y0) = false := by simpa using he
        have hcmp : ∀ w' : World, (binOp .eql 36 (.agg #[.int .i64 x0, .int .i64 x1]) (.agg #[.int .i64 y0, .int .i64 y1])).run Try.prog w' = .ok (.bool false) w' := fun w' => span_eql_no w' (.inl he)
        go_wp2_with fail
        go_quiet (fail)
        go_wp2_with fail
        go_ret
        exact ⟨_, rfl, n + nq, by rw [World.drewN_drewN]⟩
    · obtain rfl : j = m := by omega
      go_wp2_with fail
      go_ret
      exact ⟨_, rfl, _, rfl⟩
set_option maxRecDepth 100000 in
set_option maxHeartbeats 2000000 in
theorem sraw_out (gen : Int) (A : Option Addr) (m c : Nat) (s : ByteArray) (a b g : Int) (_hs : s.size ≤ 140737488351232) (_hm : m ≤ 9223372036854775807) (w : World) (h : 600 < s.size ∨ 60 < m ∨ gen < 1 ∨ 3 < gen) :
    Calls Try.prog 5 #[.int .i64 gen, .slice A m c, .string s, .int .i64 a, .int .i64 b, .int .i64 g] w fun e w' => e = .returned (.bool true) ∧ Below w.heap.size w w' := by
  by_cases h0 : 600 < s.size
  · clear h
    go_enter Try.func5, Try.ntmps5
    go_wp2_with fail
    refine (alive15_any _).mono ?_
    rintro e w1 ⟨rfl, hb1⟩
    go_wp2_with fail
    go_ret
    exact ⟨rfl, hb1⟩
  have n0 : s.size ≤ 600 := by omega
  by_cases h1 : 60 < m
  · clear h h0
    go_enter Try.func5, Try.ntmps5
    go_wp2_with fail
    refine (alive15_any _).mono ?_
    rintro e w1 ⟨rfl, hb1⟩
    go_wp2_with fail
    go_ret
    exact ⟨rfl, hb1⟩
  have n1 : m ≤ 60 := by omega
  by_cases h2 : gen < 1
  · clear h h0 h1
    go_enter Try.func5, Try.ntmps5
    go_wp2_with fail
    refine (alive15_any _).mono ?_
    rintro e w1 ⟨rfl, hb1⟩
    go_wp2_with fail
    go_ret
    exact ⟨rfl, hb1⟩
  have n2 : 1 ≤ gen := by omega
  have h3 : 3 < gen := by omega
  clear h h0 h1 h2
  go_enter Try.func5, Try.ntmps5
  go_wp2_with fail
  refine (alive15_any _).mono ?_
  rintro e w1 ⟨rfl, hb1⟩
  go_wp2_with fail
  go_ret
  exact ⟨rfl, hb1⟩

set_option maxRecDepth 100000 in
set_option maxHeartbeats 8000000 in
theorem sraw_in (gen : Int) (A : Option Addr) (m c : Nat) (l : List (Int × Int)) (s : ByteArray) (a b g : Int) (w : World) (h1 : s.size ≤ 600) (h2 : m ≤ 60) (h4 : 1 ≤ gen) (h5 : gen ≤ 3) (hlm : l.length = m) (hx : Spans w w.heap.size A l) (hmc : m ≤ c) (hc0 : A = none → m = 0 ∧ c = 0)
    (ha : -9223372036854775808 ≤ a ∧ a ≤ 9223372036854775807) (hb : -9223372036854775808 ≤ b ∧ b ≤ 9223372036854775807) (hg : -9223372036854775808 ≤ g ∧ g ≤ 9223372036854775807) (hlb : ∀ z ∈ l, z.2 ≤ 9223372036854775807) :
    Calls Try.prog 5 #[.int .i64 gen, .slice A m c, .string s, .int .i64 a, .int .i64 b, .int .i64 g] w fun e w' => e = .returned (.bool true) ∧ Below w.heap.size w w' := by
  obtain ⟨T, x, fN, fC, rN, rC, hV, K⟩ := cutter_of (gen := gen) ⟨h4, h5⟩
  have HOF := Lib.hid (of_in (gen := gen) ⟨h4, h5⟩ hV)
  have hq1 : ∀ (w : World), (binOp .eql 29 (.iface T x) .nilIface).run Try.prog w = .ok (.bool false) w := fun w => by rfl
  obtain ⟨R, hR⟩ : ∃ R, R = ruleOf gen := ⟨_, rfl⟩
  rw [← hR] at K
  obtain ⟨want, hwant⟩ : ∃ want, want = cutL R 0 s.data.toList := ⟨_, rfl⟩
  have hwl : want.length ≤ 600 := by rw [hwant]; have h := cutL_few R 0 s.data.toList; rw [← Lib.size_eq] at h; omega
  obtain ⟨M, hM⟩ : ∃ M, M = againL R l s.data.toList a b g := ⟨_, rfl⟩
  have hMl : M.1.length ≤ 720 := by rw [hM]; have h := (again_len R l s.data.toList a b g).1; rw [← Lib.size_eq] at h; omega
  have hMbad : mayB l s.size a b g = false → M = (want, want.length) := fun h => by rw [hM, again_bad R (by rw [← Lib.size_eq]; exact h), hwant]
  have HMB := Lib.hid hMbad
  have HRC : Hid (∀ w', Calls Try.prog 13 #[.int .i64 gen, .string s] w' fun e w'' => ∃ p c, e = .returned (.slice p want.length c) ∧ w''.ownsRow w'.heap.size 36 2 (.slice p want.length c) want.length (flatS want) ∧ Below w'.heap.size w' w'') := Lib.hid (fun w' => by
    have h := refcut_any gen s w' (by omega)
    rw [← hR, ← hwant] at h
    exact h)
  have HAG : Hid (∀ w', Below w.heap.size w w' → Calls Try.prog 25 #[.iface T x, .slice A m c, .string s, .int .i64 a, .int .i64 b, .int .i64 g] w' fun e w'' => ∃ q d, e = .returned (.tuple #[.slice q M.1.length d, .int .i64 (M.2 : Int)]) ∧ w''.ownsRow w'.heap.size 36 2 (.slice q M.1.length d) M.1.length (flatS M.1) ∧ Below w'.heap.size w' w'') := Lib.hid (fun w' hb' => by
    have h := again_any K A m c l s a b g w' hlm ((hx.below hb').more hb'.size) (by omega) hmc hc0 (by omega) ha hb hg hlb
    rw [← hM] at h
    exact h)
  have HWH : Hid (∀ (n : Int) (w' : World), Below w.heap.size w w' → Calls Try.prog 29 #[.int .i64 n, .slice A m c] w' fun e w'' => e = .returned (.bool (wholeB n l)) ∧ w' = w'') := Lib.hid (fun n w' hb' => rwhole_any n A m c l w' hlm ((hx.below hb').more hb'.size) (by omega))
  clear hV hR hwant hM hMbad K hx hlm hc0 hmc
  go_enter Try.func5, Try.ntmps5
  go_wp2_with fail
  refine (alive15_any _).mono ?_
  rintro e w1 ⟨rfl, hb1⟩
  have HB1 := Lib.hid hb1
  clear hb1
  go_wp2_with fail
  refine (HOF.out _).mono ?_
  rintro e w2 ⟨rfl, hb2⟩
  have HB2 := Lib.hid (HB1.out.trans (hb2.mono HB1.out.size))
  clear hb2
  go_wp2_with fail
  refine (HAG.out _ HB2.out).mono ?_
  rintro e w3 ⟨q3, c3, rfl, hr3, hb3⟩
  have HB3 := Lib.hid (HB2.out.trans (hb3.mono HB2.out.size))
  have HR3 := Lib.hid hr3
  clear hr3 hb3
  obtain ⟨B0, hB0⟩ : ∃ B0, B0 = (decide (a < 0) || decide (b < a) || decide ((s.size : Int) < b) || decide ((s.size : Int) < g) || decide (g < -100000)) := ⟨_, rfl⟩
  have HB0 := Lib.hid hB0
  clear hB0
  go_upto_region 7 with fail
  go_cut [17] from 61 to 83 (fun v wx => v = .bool B0 ∧ wx = w3)
  case first =>
    go_wp2_with fail
    all_goals (go_meet; refine ⟨?_, rfl⟩; first | (rw [HB0.out]; done) | (rw [HB0.out]; simp_all))
  case rest =>
  obtain ⟨w4, rfl⟩ : ∃ w4, w4 = wc := ⟨_, rfl⟩
  obtain ⟨rfl, rfl⟩ := hcut
  go_upto_if 85 with fail
  go_cut [17] from 84 to 99 (fun v wx => ∃ B1, v = .bool B1 ∧ (g < -100000 ∨ B1 = false ∨ mayB l s.size a b g = false) ∧ wx = w4)
  case first =>
    cases B0 with
    | true =>
      have HF : Hid (g < -100000 ∨ true = false ∨ mayB l s.size a b g = false) := Lib.hid (by
        by_cases hg5 : g < -100000
        · exact .inl hg5
        · right; right
          have h := HB0.out
          by_cases hgs : (s.size : Int) < g
          · unfold mayB
            have : wholeB ((s.size : Int) - g) l = false := by
              cases hw : wholeB ((s.size : Int) - g) l with
              | false => rfl
              | true => have := (wholeB_in hw).1; omega
            rw [this]; rfl
          · cases hm : mayB l s.size a b g with
            | false => rfl
            | true =>
              exfalso
              unfold mayB at hm
              simp only [Bool.and_eq_true, decide_eq_true_eq] at hm
              simp at h
              omega)
      go_wp2_with fail
      go_meet
      exact ⟨true, rfl, HF.out, rfl⟩
    | false =>
      have hall : (0 ≤ a ∧ a ≤ b ∧ b ≤ (s.size : Int)) ∧ g ≤ (s.size : Int) ∧ -100000 ≤ g := by
        have h := HB0.out
        simp at h
        omega
      obtain ⟨⟨k1, k2, k3⟩, k4, k5⟩ := hall
      by_cases hlt : b - g < a
      · have hd : decide (b - g < a) = true := decide_eq_true hlt
        have HF : Hid (mayB l s.size a b g = false) := Lib.hid (by
          unfold mayB
          rw [decide_eq_false (by omega : ¬ a ≤ b - g)]
          simp)
        go_wp2_with fail
        go_meet
        exact ⟨true, rfl, .inr (.inr HF.out), rfl⟩
      · have hd : decide (b - g < a) = false := decide_eq_false hlt
        have HW2 := Lib.hid (HWH.out ((s.size : Int) - g) w4 HB3.out)
        obtain ⟨r, hr⟩ : ∃ r, r = wholeB ((s.size : Int) - g) l := ⟨_, rfl⟩
        rw [← hr] at HW2
        have HF : Hid (r = false → mayB l s.size a b g = false) := Lib.hid (fun h => by
          unfold mayB
          rw [← hr, h]
          rfl)
        clear hr
        go_wp2_with fail
        refine HW2.out.mono ?_
        rintro e w5 ⟨rfl, rfl⟩
        cases r with
        | false =>
          go_wp2_with fail
          go_meet
          exact ⟨true, rfl, .inr (.inr (HF.out (by simp))), rfl⟩
        | true =>
          go_wp2_with fail
          go_meet
          exact ⟨false, rfl, .inr (.inl rfl), rfl⟩
  case rest =>
  obtain ⟨w5, rfl⟩ : ∃ w5, w5 = wc := ⟨_, rfl⟩
  obtain ⟨B1, rfl, hB1, rfl⟩ := hcut
  have HB1' := Lib.hid hB1
  clear hB1
  go_wp2_with fail
  refine (HRC.out _).mono ?_
  rintro e w6 ⟨p6, c6, rfl, hr6, hb6⟩
  have HB6 := Lib.hid (HB3.out.trans (hb6.mono HB3.out.size))
  have HR36 := Lib.hid (row_below HR3.out hb6)
  have HR6 := Lib.hid hr6
  clear hr6 hb6
  cases B1 with
  | false =>
    go_wp2_with fail
    go_ret
    exact ⟨rfl, HB6.out⟩
  | true =>
    by_cases hg5 : g < -100000
    · have hgd : decide (g < -100000) = true := decide_eq_true hg5
      have HSS := Lib.hid (ssome_any q3 p6 M.1.length want.length c3 c6 M.1 want w6 rfl rfl (row_spans HR36.out) (row_spans HR6.out) (by omega) (by omega))
      go_wp2_with fail
      refine HSS.out.mono ?_
      rintro e w7 ⟨r, rfl, n7, rfl⟩
      cases r with
      | false =>
        go_wp2_with fail
        go_ret
        exact ⟨rfl, HB6.out.trans ((below_dn w6 n7).mono HB6.out.size)⟩
      | true =>
        by_cases hn : M.2 = want.length
        · have hnb : ((M.2 : Int) == (want.length : Int)) = true := by rw [hn]; simp
          go_wp2_with fail
          go_ret
          exact ⟨rfl, HB6.out.trans ((below_dn w6 n7).mono HB6.out.size)⟩
        · have hnb : ((M.2 : Int) == (want.length : Int)) = false := by simp; omega
          go_wp2_with fail
          go_ret
          exact ⟨rfl, HB6.out.trans ((below_dn w6 n7).mono HB6.out.size)⟩
    · have hMM : M = (want, want.length) := HMB.out (by
        rcases HB1'.out with h | h | h
        · exact absurd h hg5
        · cases h
        · exact h)
      subst hMM
      have hgd : decide (g < -100000) = false := decide_eq_false hg5
      have HSS := Lib.hid (ssame_any q3 p6 want.length c3 c6 want w6 rfl (row_spans HR36.out) (row_spans HR6.out) (by omega))
      go_wp2_with fail
      refine HSS.out.mono ?_
      rintro e w7 ⟨rfl, n7, rfl⟩
      go_wp2_with fail
      go_ret
      exact ⟨rfl, HB6.out.trans ((below_dn w6 n7).mono HB6.out.size)⟩
theorem sraw_any (gen : Int) (A : Option Addr) (m c : Nat) (ds : List OpS) (s : ByteArray) (a b g : Int) (w : World) (_hg : -9223372036854775808 ≤ gen ∧ gen ≤ 9223372036854775807) (hd : ActsSIn w A m c ds) (hs : s.size ≤ 140737488351232) (ha : -9223372036854775808 ≤ a ∧ a ≤ 9223372036854775807) (hb : -9223372036854775808 ≤ b ∧ b ≤ 9223372036854775807) (hg : -9223372036854775808 ≤ g ∧ g ≤ 9223372036854775807) :
    Calls Try.prog 5 #[.int .i64 gen, .slice A m c, .string s, .int .i64 a, .int .i64 b, .int .i64 g] w fun e w' => e = .returned (.bool true) ∧ Below w.heap.size w w' := by
  by_cases h : 600 < s.size ∨ 60 < m ∨ gen < 1 ∨ 3 < gen
  · exact sraw_out gen A m c s a b g hs hd.few w h
  · exact sraw_in gen A m c (spansOf ds) s a b g w (by omega) (by omega) (by omega) (by omega) (by rw [spansOf_len]; exact hd.len) hd.lie.spans hd.room hd.nil_ ha hb hg (fun z hz => (hd.lie.bounds z hz).2.2)
end Go.Proofs.Ytkcjiogackkecaa
