/-
  Package fixed's calls, and the document's own Fixed and Whole. No statement is proved here.
-/
import Derived.Test.YtkcjiogackkecaaFixedPure
import Derived.Test.YtkcjiogackkecaaSpanMark
import Derived.Test.YtkcjiogackkecaaShelf
namespace Go.Proofs.Ytkcjiogackkecaa
open Go.RowKit

theorem spans_get {l : List (Int × Int)} {n j : Nat} (hn : l.length = n) (h : j < n) : ∃ a b, l[j]? = some (a, b) := ⟨(l[j]'(by omega)).1, (l[j]'(by omega)).2, List.getElem?_eq_getElem _⟩

set_option maxRecDepth 100000 in
set_option maxHeartbeats 2000000 in
theorem fwhole_any (n : Int) (A : Option Addr) (m c : Nat) (l : List (Int × Int)) (w : World) (hm : l.length = m) (hx : Spans w w.heap.size A l) (hl : m ≤ 1000000) :
    Calls Try.prog 81 #[.int .i64 n, .slice A m c] w fun e w' => e = .returned (.bool (wholeB n l)) ∧ Below w.heap.size w w' := by
  have HX := Lib.hid hx
  have HM := Lib.hid hm
  clear hx hm
  go_enter Try.func81, Try.ntmps81
  go_wp2_with fail
  go_loopw [5, 7, 10] (fun p x i wr => ∃ (j : Nat) (a : Int), j ≤ m ∧ i = .int .i64 j ∧ p = .int .i64 a ∧ wholeEnd (l.take j) = some a ∧ Below w.heap.size w wr) (fun _ _ i _ => m - (intOf i).toNat)
  case atStart => exact ⟨0, 0, Nat.zero_le _, rfl, rfl, rfl, Below.refl _ _⟩
  case round =>
    obtain ⟨j, a, hj, rfl, rfl, hwe, hbr⟩ := hrel
    by_cases hlt : j < m
    · obtain ⟨x0, x1, hxj⟩ := spans_get HM.out hlt
      obtain ⟨b, off, hA, hbB, hc⟩ := HX.out (by rw [HM.out]; omega)
      obtain ⟨d0, d1⟩ := hc j _ hxj
      have e0 : wr.cell? ⟨b, off + j * 2, none⟩ = some (.int .i64 x0) := (hbr.cell (p := ⟨b, off + j * 2, none⟩) hbB).trans d0
      have e1 : wr.cell? ⟨b, off + j * 2 + 1, none⟩ = some (.int .i64 x1) := (hbr.cell (p := ⟨b, off + j * 2 + 1, none⟩) hbB).trans d1
      have HS := Lib.hid (wholeEnd_snoc hxj)
      have HWE := Lib.hid hwe
      have hbr2 : Below w.heap.size w (wr.alloc (.cells #[.int .i64 x0, .int .i64 x1] 36)) := hbr.alloc hbr.size _
      have HB2 := Lib.hid hbr2
      clear hxj hc d0 d1 hwe hbr2
      subst hA
      by_cases hok : x0 = a ∧ ¬ x1 ≤ a
      · obtain ⟨rfl, hx1⟩ := hok
        have HE : Hid (wholeEnd (l.take (j + 1)) = some x1) := Lib.hid (by rw [HS.out, HWE.out]; unfold wstep; simp only [Option.bind_some]; rw [if_neg (by omega)])
        have hx2 : x0 < x1 := by omega
        go_wp2_with fail
        go_roundw
        case rel => exact ⟨j + 1, x1, by omega, by go_num, rfl, HE.out, HB2.out⟩
        case measure => simp [intOf]; omega
      · have HE : Hid (wholeB n l = false) := Lib.hid (by
          have : wholeEnd (l.take (j + 1)) = none := by rw [HS.out, HWE.out]; unfold wstep; simp only [Option.bind_some]; rw [if_pos (by omega)]
          unfold wholeB
          rw [wholeEnd_none this]
          rfl)
        by_cases h0 : x0 = a
        · subst h0
          have hx1 : x1 ≤ x0 := by omega
          go_wp2_with fail
          go_ret
          exact ⟨by rw [HE.out]; rfl, HB2.out⟩
        · go_wp2_with fail
          go_ret
          exact ⟨by rw [HE.out]; rfl, HB2.out⟩
    · obtain rfl : j = m := by omega
      have htk : l.take j = l := List.take_of_length_le (by rw [HM.out]; exact Nat.le_refl _)
      rw [htk] at hwe
      have HE : Hid (wholeB n l = (a == n)) := Lib.hid (by unfold wholeB; rw [hwe]; rfl)
      clear hwe htk
      go_wp2_with fail
      go_ret
      exact ⟨by rw [HE.out]; rfl, hbr⟩

set_option maxRecDepth 100000 in
set_option maxHeartbeats 2000000 in
theorem rwhole_any (n : Int) (A : Option Addr) (m c : Nat) (l : List (Int × Int)) (w : World) (hm : l.length = m) (hx : Spans w w.heap.size A l) (hl : m ≤ 1000000) :
    Calls Try.prog 29 #[.int .i64 n, .slice A m c] w fun e w' => e = .returned (.bool (wholeB n l)) ∧ w = w' := by
  have HX := Lib.hid hx
  have HM := Lib.hid hm
  clear hx hm
  go_enter Try.func29, Try.ntmps29
  go_wp2_with fail
  go_loopw [5, 6] (fun p i wr => ∃ (j : Nat) (a : Int), j ≤ m ∧ i = .int .i64 j ∧ p = .int .i64 a ∧ wholeEnd (l.take j) = some a ∧ w = wr) (fun _ i _ => m - (intOf i).toNat)
  case atStart => exact ⟨0, 0, Nat.zero_le _, rfl, rfl, rfl, rfl⟩
  case round =>
    obtain ⟨j, a, hj, rfl, rfl, hwe, rfl⟩ := hrel
    by_cases hlt : j < m
    · obtain ⟨x0, x1, hxj⟩ := spans_get HM.out hlt
      obtain ⟨b, off, hA, hbB, hc⟩ := HX.out (by rw [HM.out]; omega)
      obtain ⟨e0, e1⟩ := hc j _ hxj
      simp only at e0 e1
      have HS := Lib.hid (wholeEnd_snoc hxj)
      have HWE := Lib.hid hwe
      clear hxj hc hwe
      subst hA
      by_cases hok : x0 = a ∧ ¬ x1 ≤ a
      · obtain ⟨rfl, hx1⟩ := hok
        have HE : Hid (wholeEnd (l.take (j + 1)) = some x1) := Lib.hid (by rw [HS.out, HWE.out]; unfold wstep; simp only [Option.bind_some]; rw [if_neg (by omega)])
        have hx2 : x0 < x1 := by omega
        go_wp2_with fail
        go_roundw
        case rel => exact ⟨j + 1, x1, by omega, by go_num, rfl, HE.out, trivial⟩
        case measure => simp [intOf]; omega
      · have HE : Hid (wholeB n l = false) := Lib.hid (by
          have : wholeEnd (l.take (j + 1)) = none := by rw [HS.out, HWE.out]; unfold wstep; simp only [Option.bind_some]; rw [if_pos (by omega)]
          unfold wholeB
          rw [wholeEnd_none this]
          rfl)
        by_cases h0 : x0 = a
        · subst h0
          have hx1 : x1 ≤ x0 := by omega
          go_wp2_with fail
          go_ret
          exact ⟨by rw [HE.out]; rfl, rfl⟩
        · go_wp2_with fail
          go_ret
          exact ⟨by rw [HE.out]; rfl, rfl⟩
    · obtain rfl : j = m := by omega
      have htk : l.take j = l := List.take_of_length_le (by rw [HM.out]; exact Nat.le_refl _)
      rw [htk] at hwe
      have HE : Hid (wholeB n l = (a == n)) := Lib.hid (by unfold wholeB; rw [hwe]; rfl)
      clear hwe htk
      go_wp2_with fail
      go_ret
      exact ⟨by rw [HE.out]; rfl, rfl⟩
set_option maxRecDepth 100000 in
set_option maxHeartbeats 4000000 in
theorem fcut_any (n : Int) (A : Option Addr) (m c : Nat) (xs : List ByteArray) (w : World) (hn : -9223372036854775808 ≤ n ∧ n ≤ 9223372036854775807) (hm : xs.length = m) (hx : Txts w w.heap.size A xs) (hl : m ≤ 1000000) (hs : (cats xs).length ≤ 1000000) :
    Calls Try.prog 37 #[.int .i64 n, .slice A m c] w fun e w' => ∃ p cap, e = .returned (.slice p (cutS n (cats xs).length).length cap) ∧ w'.ownsRow w.heap.size 36 2 (.slice p (cutS n (cats xs).length).length cap) (cutS n (cats xs).length).length (flatS (cutS n (cats xs).length)) ∧ Below w.heap.size w w' := by
  obtain ⟨i0, hi, hz0, hz1, hz2⟩ := info_parts hspans_info
  by_cases h1 : n < 1
  · have HE : Hid (cutS n (cats xs).length = []) := Lib.hid (by unfold cutS; rw [if_pos h1])
    rw [HE.out]
    clear hx hl hs
    go_enter Try.func37, Try.ntmps37
    go_wp2_with fail
    go_ret
    exact ⟨none, 0, rfl, World.ownsRow_nil _ _ _ _, Below.refl _ _⟩
  · obtain ⟨k, rfl⟩ : ∃ k : Nat, n = (k : Int) := ⟨n.toNat, by omega⟩
    obtain ⟨S, hS⟩ : ∃ S, S = (cats xs).length := ⟨_, rfl⟩
    rw [← hS] at hs ⊢
    have hk1 : 1 ≤ k := by omega
    have hk2 : k ≤ 9223372036854775807 := by omega
    have HC : Hid (cutS (k : Int) S = cutJ k S (manyOf k S)) := Lib.hid (by unfold cutS; rw [if_neg h1, Int.toNat_natCast])
    rw [HC.out, cutJ_len]
    have hkI : ¬ (k : Int) < 1 := by omega
    have HSS := Lib.hid hS
    have HM := Lib.hid hm
    have HX := Lib.hid hx
    have HFEW : Hid (manyOf k S ≤ S) := Lib.hid (many_few hk1)
    clear hS hm hx h1 hn
    go_enter Try.func37, Try.ntmps37
    go_wp2_with fail
    go_loopw [5, 7, 14] (fun z x i wr => ∃ (j : Nat), j ≤ m ∧ i = .int .i64 j ∧ z = .int .i64 (((cats (xs.take j)).length : Nat) : Int) ∧ w = wr) (fun _ _ i _ => m - (intOf i).toNat)
    case atStart => exact ⟨0, Nat.zero_le _, rfl, by simp [cats], rfl⟩
    case round =>
      obtain ⟨j, hj, rfl, rfl, rfl⟩ := hrel
      by_cases hlt : j < m
      · obtain ⟨b, off, hA, hbB, hc⟩ := HX.out (by rw [HM.out]; omega)
        obtain ⟨x, hx⟩ : ∃ x, xs[j]? = some x := ⟨xs[j]'(by rw [HM.out]; exact hlt), List.getElem?_eq_getElem _⟩
        have hcx := hc j x hx
        obtain ⟨q, hq⟩ : ∃ q : Nat, q = (cats (xs.take j)).length := ⟨_, rfl⟩
        have hle := cats_len hx
        have hsn : (cats (xs.take (j + 1))).length = q + x.size := by rw [cats_snoc hx, List.length_append, ← hq, Lib.size_eq]
        rw [← hq, ← HSS.out] at hle
        rw [← hq]
        have hqx : q + x.size ≤ 1000000 := by omega
        have HSN := Lib.hid hsn
        clear hx hc hle hsn hq
        subst hA
        go_wp2_with fail
        go_roundw
        case rel => exact ⟨j + 1, by omega, by go_num, by rw [HSN.out]; go_num, trivial⟩
        case measure => simp [intOf]; omega
      · obtain rfl : j = m := by omega
        have htk : xs.take j = xs := List.take_of_length_le (by rw [HM.out]; exact Nat.le_refl _)
        rw [htk, ← HSS.out]
        clear htk
        go_wp2_with fail
        go_loopw [8, 9] (fun v f wr => ∃ (j x : Nat), x = j * k ∧ (j = 0 ∨ x < S + k) ∧ j ≤ manyOf k S ∧ f = .int .i64 (x : Int) ∧ wr.ownsRow w.heap.size 36 2 v j (flatS (cutJ k S j)) ∧ Below w.heap.size w wr) (fun _ f _ => S - (intOf f).toNat)
        case atStart => exact ⟨0, 0, by simp, .inl rfl, Nat.zero_le _, rfl, World.ownsRow_nil _ _ _ _, Below.refl _ _⟩
        case round =>
          obtain ⟨i, x, hx, hor, hmany, rfl, hown, hbr⟩ := hrel
          obtain ⟨p, cap, rfl, -, -, -, -⟩ := krow_form hown
          have HOWN := Lib.hid hown
          have HOR := Lib.hid hor
          have HX1 := Lib.hid hx
          clear hown hor hx
          by_cases hlt : x < S
          · have hadd : x + k ≤ 9223372036854775807 := by
              rcases Nat.eq_zero_or_pos i with e | e
              · have := HX1.out; subst e; omega
              · have h2 := Nat.mul_le_mul_right k (show 1 ≤ i by omega)
                rw [← HX1.out] at h2
                omega
            have HMI : Hid (i + 1 ≤ manyOf k S) := Lib.hid (by
              rcases Nat.lt_or_ge i (manyOf k S) with h | h
              · exact h
              · have h2 := many_le (m := k) (size := S) hk1
                have h3 : i = manyOf k S := by omega
                rw [← h3, ← HX1.out] at h2
                omega)
            have hi6 : i + 1 ≤ 1000000 := Nat.le_trans HMI.out (Nat.le_trans HFEW.out hs)
            obtain ⟨y, hy⟩ : ∃ y, y = min (x + k) S := ⟨_, rfl⟩
            have hmin : min ((x : Int) + (k : Int)) (S : Int) = (y : Int) := by omega
            have HSN : Hid (flatS (cutJ k S i) ++ [.int .i64 (x : Int), .int .i64 (y : Int)] = flatS (cutJ k S (i + 1))) := Lib.hid (by
              rw [cutJ_snoc, flatS_append, ← HX1.out, ← hy]
              rfl)
            have hxI : (x : Int) < (S : Int) := by omega
            have HY := Lib.hid hy
            clear hy
            go_wp2_with (at_builtin; refine wpList_append_lies _ rfl (.tmp 29) (.tmp 37) 33 rfl w.heap.size 36 i0 (.agg #[.int .i64 0, .int .i64 0]) 2 16 Try.underlying33 hi hz0 hz1 hz2 rfl (by omega) _ i _ rfl (HOWN.out.alloc _) ⟨wr.heap.size, 0, none⟩ 1 1 [.int .i64 (x : Int), .int .i64 (y : Int)] rfl rfl ?c1 ?c2 (by omega) (by unfold maxLen; omega) (by omega) (by have := hbr.size; simp; omega) _ rfl ?_)
            case c1 => exact World.news_of_block (heap_alloc_new wr _)
            case c2 => intro u hu; simp at hu; rcases hu with rfl | rfl <;> rfl
            intro g cap2 w1 hown1 hg1 hor1 hlt1
            have hb1 : Below w.heap.size w w1 := (hbr.alloc hbr.size _).grown hg1 (by have := hbr.size; simp; omega) (fun k hk => (HOWN.out.lt k hk).1)
            have HB1 := Lib.hid hb1
            rw [HSN.out] at hown1
            have HOW := Lib.hid hown1
            clear hown1 hg1 hor1 hb1 hbr hlt1
            go_wp2_with fail
            go_roundw
            case rel => exact ⟨i + 1, x + k, by rw [Nat.add_mul, ← HX1.out, Nat.one_mul], .inr (by omega), HMI.out, by go_num, HOW.out, HB1.out⟩
            case measure => simp [intOf]; omega
          · obtain rfl : i = manyOf k S := many_of hk1 HX1.out (by omega) (HOR.out)
            go_wp2_with fail
            go_ret
            exact ⟨p, cap, rfl, HOWN.out, hbr⟩
set_option maxRecDepth 100000 in
set_option maxHeartbeats 4000000 in
theorem rfixed_any (n : Int) (S : Nat) (w : World) (hn : -9223372036854775808 ≤ n ∧ n ≤ 9223372036854775807) (hs : S ≤ 1000000) :
    Calls Try.prog 22 #[.int .i64 n, .int .i64 (S : Int)] w fun e w' => ∃ p cap, e = .returned (.slice p (cutS n S).length cap) ∧ w'.ownsRow w.heap.size 36 2 (.slice p (cutS n S).length cap) (cutS n S).length (flatS (cutS n S)) ∧ Below w.heap.size w w' := by
  obtain ⟨i0, hi, hz0, hz1, hz2⟩ := info_parts hspans_info
  by_cases h1 : n < 1
  · have HE : Hid (cutS n S = []) := Lib.hid (by unfold cutS; rw [if_pos h1])
    rw [HE.out]
    have h2 : ¬ n > 0 := by omega
    clear h1
    go_enter Try.func22, Try.ntmps22
    go_wp2_with fail
    go_loopw [5, 6] (fun v f wr => v = .slice none 0 0 ∧ f = .int .i64 0 ∧ w = wr) (fun _ _ _ => 0)
    case atStart => exact ⟨rfl, rfl, rfl⟩
    case round =>
      obtain ⟨rfl, rfl, rfl⟩ := hrel
      by_cases h3 : (0 : Int) < (S : Int)
      · have h4 : n ≤ 0 := by omega
        go_wp2_with fail
        go_ret
        exact ⟨none, 0, rfl, World.ownsRow_nil _ _ _ _, Below.refl _ _⟩
      · go_wp2_with fail
        go_ret
        exact ⟨none, 0, rfl, World.ownsRow_nil _ _ _ _, Below.refl _ _⟩
  · obtain ⟨k, rfl⟩ : ∃ k : Nat, n = (k : Int) := ⟨n.toNat, by omega⟩
    have hk1 : 1 ≤ k := by omega
    have hk2 : k ≤ 9223372036854775807 := by omega
    have HC : Hid (cutS (k : Int) S = cutJ k S (manyOf k S)) := Lib.hid (by unfold cutS; rw [if_neg h1, Int.toNat_natCast])
    rw [HC.out, cutJ_len]
    have hkI : (k : Int) > 0 := by omega
    have HFEW : Hid (manyOf k S ≤ S) := Lib.hid (many_few hk1)
    clear h1 hn
    go_enter Try.func22, Try.ntmps22
    go_wp2_with fail
    go_loopw [5, 6] (fun v f wr => ∃ (j x : Nat), x = min (j * k) S ∧ (j = 0 ∨ j * k < S + k) ∧ j ≤ manyOf k S ∧ f = .int .i64 (x : Int) ∧ wr.ownsRow w.heap.size 36 2 v j (flatS (cutJ k S j)) ∧ Below w.heap.size w wr) (fun _ f _ => S - (intOf f).toNat)
    case atStart => exact ⟨0, 0, by simp, .inl rfl, Nat.zero_le _, rfl, World.ownsRow_nil _ _ _ _, Below.refl _ _⟩
    case round =>
      obtain ⟨i, x, hx, hor, hmany, rfl, hown, hbr⟩ := hrel
      obtain ⟨p, cap, rfl, -, -, -, -⟩ := krow_form hown
      have HOWN := Lib.hid hown
      have HOR := Lib.hid hor
      have HX1 := Lib.hid hx
      clear hown hor hx
      by_cases hlt : x < S
      · have HXX : Hid (x = i * k) := Lib.hid (by have := HX1.out; omega)
        have HMI : Hid (i + 1 ≤ manyOf k S) := Lib.hid (by
          rcases Nat.lt_or_ge i (manyOf k S) with h | h
          · exact h
          · have h2 := many_le (m := k) (size := S) hk1
            have h3 : i = manyOf k S := by omega
            rw [← h3, ← HXX.out] at h2
            omega)
        have hi6 : i + 1 ≤ 1000000 := Nat.le_trans HMI.out (Nat.le_trans HFEW.out hs)
        obtain ⟨y, hy⟩ : ∃ y, y = min (x + k) S := ⟨_, rfl⟩
        obtain ⟨d, hd⟩ : ∃ d, d = min k (S - x) := ⟨_, rfl⟩
        have hmin : min (k : Int) ((S : Int) - (x : Int)) = (d : Int) := by omega
        have hyd : y = x + d := by omega
        have hyI : (x : Int) + (d : Int) = (y : Int) := by omega
        have HSN : Hid (flatS (cutJ k S i) ++ [.int .i64 (x : Int), .int .i64 (y : Int)] = flatS (cutJ k S (i + 1))) := Lib.hid (by
          rw [cutJ_snoc, flatS_append, ← HXX.out, ← hy]
          rfl)
        have hxI : (x : Int) < (S : Int) := by omega
        have hdS : x + d ≤ 1000000 := by omega
        have HY := Lib.hid hy
        have HYD := Lib.hid hyd
        have hds : 0 < d := by omega
        clear hy hd hyd
        go_wp2_with (at_builtin; refine wpList_append_lies _ rfl (.tmp 21) (.tmp 31) 33 rfl w.heap.size 36 i0 (.agg #[.int .i64 0, .int .i64 0]) 2 16 Try.underlying33 hi hz0 hz1 hz2 rfl (by omega) _ i _ rfl (HOWN.out.alloc _) ⟨wr.heap.size, 0, none⟩ 1 1 [.int .i64 (x : Int), .int .i64 (y : Int)] rfl rfl ?c1 ?c2 (by omega) (by unfold maxLen; omega) (by omega) (by have := hbr.size; simp; omega) _ rfl ?_)
        case c1 => exact World.news_of_block (heap_alloc_new wr _)
        case c2 => intro u hu; simp at hu; rcases hu with rfl | rfl <;> rfl
        intro g cap2 w1 hown1 hg1 hor1 hlt1
        have hb1 : Below w.heap.size w w1 := (hbr.alloc hbr.size _).grown hg1 (by have := hbr.size; simp; omega) (fun k hk => (HOWN.out.lt k hk).1)
        have HB1 := Lib.hid hb1
        rw [HSN.out] at hown1
        have HOW := Lib.hid hown1
        clear hown1 hg1 hor1 hb1 hbr hlt1
        go_wp2_with fail
        go_roundw
        case rel => exact ⟨i + 1, y, by rw [Nat.add_mul, ← HXX.out, Nat.one_mul]; exact HY.out, .inr (by rw [Nat.add_mul, ← HXX.out, Nat.one_mul]; omega), HMI.out, by go_num, HOW.out, HB1.out⟩
        case measure => have := HYD.out; simp [intOf]; omega
      · have HI : Hid (i = manyOf k S) := Lib.hid (many_of hk1 rfl (by have := HX1.out; omega) HOR.out)
        have hi7 := HI.out
        subst hi7
        have hxS : ¬ (x : Int) < (S : Int) := by omega
        go_wp2_with fail
        go_ret
        exact ⟨p, cap, rfl, HOWN.out, hbr⟩
theorem join_bad {s : ByteArray} {l : List (Int × Int)} {j : Nat} {x : Int × Int} (h : l[j]? = some x) (hx : okSp s.size x = false) : l.all (okSp s.size) = false := by
  rw [List.all_eq_false]
  exact ⟨x, List.mem_of_getElem? h, by simp [hx]⟩

end Go.Proofs.Ytkcjiogackkecaa
