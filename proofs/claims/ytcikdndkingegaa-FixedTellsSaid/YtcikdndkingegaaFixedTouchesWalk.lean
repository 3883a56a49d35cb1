/-
  FixedTouches, walked. No statement is proved here.
-/
import Derived.Test.YtcikdndkingegaaFixedAlive
import Derived.Test.YtcikdndkingegaaIntsView
namespace Go.Proofs.Ytcikdndkingegaa
open Go.RowKit

theorem wend_step {l : List (Int × Int)} {E : Int} (h : wholeEnd l = some E) {k : Nat} {p : Int × Int} (hp : l[k]? = some p) : wholeEnd (l.take k) = some p.1 ∧ p.1 < p.2 ∧ wholeEnd (l.take (k + 1)) = some p.2 := by
  have hs := wholeEnd_snoc hp
  cases ha : wholeEnd (l.take k) with
  | none => rw [wholeEnd_none ha] at h; cases h
  | some a =>
    rw [ha] at hs
    unfold wstep at hs
    simp only [Option.bind_some] at hs
    by_cases hc : p.1 ≠ a ∨ p.2 ≤ a
    · rw [if_pos hc] at hs
      rw [wholeEnd_none hs] at h
      cases h
    · rw [if_neg hc] at hs
      have e : p.1 = a := by omega
      subst e
      exact ⟨rfl, by omega, hs⟩
theorem wend_mono {l : List (Int × Int)} {E : Int} (h : wholeEnd l = some E) (d : Nat) : ∀ (k : Nat) (a a' : Int), k + d ≤ l.length → wholeEnd (l.take k) = some a → wholeEnd (l.take (k + d)) = some a' → a ≤ a' := by
  induction d with
  | zero => intro k a a' _ h1 h2; rw [Nat.add_zero, h1] at h2; injection h2 with h2; omega
  | succ d ih =>
    intro k a a' hl h1 h2
    obtain ⟨p, hp⟩ : ∃ p, l[k + d]? = some p := ⟨l[k + d]'(by omega), List.getElem?_eq_getElem _⟩
    obtain ⟨e1, e2, e3⟩ := wend_step h hp
    have := ih k a p.1 (by omega) h1 e1
    rw [show k + (d + 1) = k + d + 1 by omega, e3] at h2
    injection h2 with h2
    omega
theorem whole_mono {l : List (Int × Int)} {E : Int} (h : wholeEnd l = some E) {k k' : Nat} {p p' : Int × Int} (hk : k < k') (hp : l[k]? = some p) (hp' : l[k']? = some p') : p.2 ≤ p'.1 := by
  have hl : k' < l.length := by
    rcases Nat.lt_or_ge k' l.length with h | h
    · exact h
    · rw [List.getElem?_eq_none h] at hp'; cases hp'
  obtain ⟨_, _, e3⟩ := wend_step h hp
  obtain ⟨e1, _, _⟩ := wend_step h hp'
  exact wend_mono h (k' - (k + 1)) (k + 1) _ _ (by omega) e3 (by rw [show k + 1 + (k' - (k + 1)) = k' by omega]; exact e1)
/-- Of spans that are whole just those between what Touch tells are touched. -/
theorem touch_mem {l : List (Int × Int)} {E a b : Int} (h : wholeEnd l = some E) {j : Nat} {x0 x1 : Int} (hj : l[j]? = some (x0, x1)) :
    (a < b ∧ x0 < b ∧ a < x1) ↔ ((touchTo l a b l.length).1 ≤ (j : Int) ∧ (j : Int) < (touchTo l a b l.length).2) := by
  have hlt : j < l.length := by
    rcases Nat.lt_or_ge j l.length with h | h
    · exact h
    · rw [List.getElem?_eq_none h] at hj; cases hj
  have hx := (wend_step h hj).2.1
  simp only at hx
  have ht : touchedB a b (x0, x1) = true ↔ (a < b ∧ x0 < b ∧ a < x1) := by
    unfold touchedB
    simp only [decide_eq_true_eq]
    omega
  rcases touch_inv l a b l.length (Nat.le_refl _) with ⟨h1, h2⟩ | ⟨f, e, h1, h2, h3, h4, h5, h6, h7⟩
  · rw [h1]
    simp only
    constructor
    · intro hh
      have := h2 j _ hlt hj
      rw [ht.2 hh] at this
      cases this
    · intro hh; omega
  · rw [h1]
    simp only
    obtain ⟨⟨f0, f1⟩, hf⟩ : ∃ p, l[f]? = some p := ⟨l[f]'(by omega), List.getElem?_eq_getElem _⟩
    obtain ⟨⟨g0, g1⟩, hg⟩ : ∃ p, l[e]? = some p := ⟨l[e]'(by omega), List.getElem?_eq_getElem _⟩
    have tf := h4 _ hf
    have te := h5 _ hg
    unfold touchedB at tf te
    simp only [decide_eq_true_eq] at tf te
    constructor
    · intro hh
      constructor
      · rcases Nat.lt_or_ge j f with hc | hc
        · have := h6 j _ hc hj; rw [ht.2 hh] at this; cases this
        · omega
      · rcases Nat.lt_or_ge e j with hc | hc
        · have := h7 j _ hc hlt hj; rw [ht.2 hh] at this; cases this
        · omega
    · rintro ⟨k1, k2⟩
      refine ⟨by omega, ?_, ?_⟩
      · rcases Nat.lt_or_ge j e with hc | hc
        · have := whole_mono h hc hj hg; simp only at this; omega
        · obtain rfl : j = e := by omega
          rw [hj] at hg; cases hg; omega
      · rcases Nat.lt_or_ge f j with hc | hc
        · have := whole_mono h hc hf hj; simp only at this; omega
        · obtain rfl : j = f := by omega
          rw [hj] at hf; cases hf; omega
theorem touch_none (l : List (Int × Int)) (a b : Int) (h : ¬ (touchTo l a b l.length).1 < (touchTo l a b l.length).2) : touchTo l a b l.length = (0, 0) := by
  rcases touch_inv l a b l.length (Nat.le_refl _) with ⟨h1, _⟩ | ⟨f, e, h1, h2, _⟩
  · exact h1
  · rw [h1] at h; simp only at h; omega

set_option maxRecDepth 100000 in
set_option maxHeartbeats 8000000 in
theorem ftoucheslaw_in (A : Option Addr) (m c : Nat) (xs : List Int) (a b : Int) (w : World) (hx : Ints w w.heap.size A xs) (hm : xs.length = m) (hl : m ≤ 60) :
    Calls Try.prog 5 #[.slice A m c, .int .i64 a, .int .i64 b] w fun e w' => e = .returned (.bool true) ∧ Below w.heap.size w w' := by
  obtain ⟨i0, hi, hz0, hz1, hz2⟩ := info_parts hspans_info
  have HX := Lib.hid hx
  have HM := Lib.hid hm
  have hl2 : ¬ (60 : Int) < (m : Int) := by omega
  clear hx hm
  go_enter Try.func5, Try.ntmps5
  go_wp2_with fail
  refine (alive13_any _).mono ?_
  rintro e w1 ⟨rfl, hb1⟩
  go_wp2_with fail
  go_loopw [7, 8, 9, 10] (fun v z i u wr => ∃ (j : Nat) (ts : List (Int × Int)) (q : Nat), j ≤ m ∧ i = .int .i64 j ∧ z = .int .i64 (q : Int) ∧ ts.length = j ∧ wholeEnd ts = some (q : Int) ∧ q ≤ 50 * j ∧
    wr.ownsRow w.heap.size 47 2 v j (flatS ts) ∧ Below w.heap.size w wr) (fun _ _ i _ _ => m - (intOf i).toNat)
  case atStart => exact ⟨0, [], 0, Nat.zero_le _, rfl, rfl, rfl, rfl, by omega, World.ownsRow_nil _ _ _ _, hb1⟩
  case round =>
    obtain ⟨j, ts, q, hj, rfl, rfl, hts, hwe, hq, hown, hbr⟩ := hrel
    obtain ⟨p, cap, rfl, -, -, -, -⟩ := krow_form hown
    have HOWN := Lib.hid hown
    have HWE := Lib.hid hwe
    have HTS := Lib.hid hts
    clear hown hwe hts hb1
    by_cases hlt : j < m
    · obtain ⟨bb, off, hA, hbB, hc⟩ := HX.out (by rw [HM.out]; omega)
      obtain ⟨x, hxj⟩ : ∃ x, xs[j]? = some x := ⟨xs[j]'(by rw [HM.out]; exact hlt), List.getElem?_eq_getElem _⟩
      have hcx : wr.cell? ⟨bb, off + j, none⟩ = some (.int .i64 x) := (hbr.cell (p := ⟨bb, off + j, none⟩) hbB).trans (hc j x hxj)
      obtain ⟨r1, hr1⟩ : ∃ r, Int.tmod x 50 = r := ⟨_, rfl⟩
      have hr1a : -50 < r1 := by rw [← hr1]; exact Int.lt_tmod_of_pos _ (by omega)
      have hr1b : r1 < 50 := by rw [← hr1]; exact Int.tmod_lt_of_pos _ (by omega)
      obtain ⟨r2, hr2⟩ : ∃ r : Nat, (r1 + 50) % 50 = (r : Int) := ⟨((r1 + 50) % 50).toNat, by omega⟩
      have hr2b : r2 < 50 := by omega
      have hr3 : Int.tmod (r1 + 50) 50 = (r2 : Int) := by rw [Int.tmod_eq_emod_of_nonneg (by omega)]; exact hr2
      have HSN : Hid (flatS ts ++ [.int .i64 (q : Int), .int .i64 ((q : Int) + (1 + (r2 : Int)))] = flatS (ts ++ [((q : Int), (q : Int) + (1 + (r2 : Int)))])) := Lib.hid (by rw [flatS_append]; rfl)
      have HWN : Hid (wholeEnd (ts ++ [((q : Int), (q : Int) + (1 + (r2 : Int)))]) = some ((q + (1 + r2) : Nat) : Int)) := Lib.hid (by
        have h := HWE.out
        unfold wholeEnd at h ⊢
        rw [List.foldl_append, h]
        simp only [List.foldl_cons, List.foldl_nil, wstep, Option.bind_some]
        rw [if_neg (by omega)]
        congr 1)
      have hq2 : q ≤ 3000 := by omega
      clear hxj hc
      subst hA
      go_wp2_with (at_builtin; refine wpList_append_lies _ rfl (.tmp 37) (.tmp 43) 23 rfl w.heap.size 47 i0 (.agg #[.int .i64 0, .int .i64 0]) 2 16 Try.underlying23 hi hz0 hz1 hz2 rfl (by omega) _ j _ rfl (HOWN.out.alloc _) ⟨wr.heap.size, 0, none⟩ 1 1 [.int .i64 (q : Int), .int .i64 ((q : Int) + (1 + (r2 : Int)))] rfl rfl ?c1 ?c2 (by omega) (by unfold maxLen; omega) (by omega) (by have := hbr.size; simp; omega) _ rfl ?_)
      case c1 => exact World.news_of_block (heap_alloc_new wr _)
      case c2 => intro u hu; simp at hu; rcases hu with rfl | rfl <;> rfl
      intro g cap2 w2 hown2 hg2 hor2 hlt2
      have hb2 : Below w.heap.size w w2 := (hbr.alloc hbr.size _).grown hg2 (by have := hbr.size; simp; omega) (fun k hk => (HOWN.out.lt k hk).1)
      rw [HSN.out] at hown2
      have HOW := Lib.hid hown2
      have HB2 := Lib.hid hb2
      clear hown2 hg2 hor2 hb2 hbr hlt2
      go_wp2_with fail
      go_roundw
      case rel => exact ⟨j + 1, _, q + (1 + r2), by omega, by go_num, by go_num, by rw [List.length_append, HTS.out]; rfl, HWN.out, by omega, HOW.out, HB2.out⟩
      case measure => simp [intOf]; omega
    · obtain rfl : j = m := by omega
      have HSP : Hid (Spans wr wr.heap.size p ts) := Lib.hid (row_spans (by rw [HTS.out]; exact HOWN.out))
      have hT := ftouch_any a b p j cap ts wr HTS.out HSP.out (by omega)
      obtain ⟨t0, ht0⟩ : ∃ t, t = (touchTo ts a b j).1 := ⟨_, rfl⟩
      obtain ⟨t1, ht1⟩ : ∃ t, t = (touchTo ts a b j).2 := ⟨_, rfl⟩
      rw [← ht0, ← ht1] at hT
      have hbd := touch_bounds ts a b j (by rw [HTS.out]; exact Nat.le_refl _)
      rw [← ht0, ← ht1] at hbd
      obtain ⟨hb0, hb01, hb1m⟩ := hbd
      have HMEM : Hid (∀ (k : Nat) (x0 x1 : Int), ts[k]? = some (x0, x1) → ((a < b ∧ x0 < b ∧ a < x1) ↔ (t0 ≤ (k : Int) ∧ (k : Int) < t1))) := Lib.hid (fun k x0 x1 hk => by
        have := touch_mem (a := a) (b := b) HWE.out hk
        rw [HTS.out, ← ht0, ← ht1] at this
        exact this)
      have HNO : Hid (¬ t0 < t1 → t0 = 0 ∧ t1 = 0) := Lib.hid (fun hh => by
        have := touch_none ts a b (by rw [HTS.out, ← ht0, ← ht1]; exact hh)
        rw [HTS.out] at this
        rw [ht0, ht1, this]
        exact ⟨rfl, rfl⟩)
      have HTT := Lib.hid hT
      have HBR := Lib.hid hbr
      clear hT ht0 ht1 hbr
      go_wp2_with fail
      refine HTT.out.mono ?_
      rintro e w3 ⟨rfl, hb3⟩
      have HB3 := Lib.hid (HBR.out.trans (hb3.mono HBR.out.size))
      have HSP3 : Hid (Spans w3 w3.heap.size p ts) := Lib.hid ((HSP.out.below hb3).more hb3.size)
      clear hb3 HTT
      have hn0 : ¬ t0 < 0 := by omega
      have hn1 : ¬ t0 > t1 := by omega
      have hn2 : ¬ t1 > (j : Int) := by omega
      go_wp2_with fail
      go_loopw [13, 14] (fun i u wr => ∃ (k : Nat), k ≤ j ∧ i = .int .i64 k ∧ w3 = wr) (fun i _ _ => j - (intOf i).toNat)
      case atStart => exact ⟨0, Nat.zero_le _, rfl, rfl⟩
      case round =>
        obtain ⟨k, hk, rfl, rfl⟩ := hrel
        by_cases hkj : k < j
        · obtain ⟨x0, x1, hxk⟩ := spans_get HTS.out hkj
          have hiff := HMEM.out k x0 x1 hxk
          obtain ⟨bp, op, hA, hbB, hc⟩ := HSP3.out (by rw [HTS.out]; omega)
          obtain ⟨d0, d1⟩ := hc k _ hxk
          simp only at d0 d1
          clear hxk hc
          subst hA
          by_cases hin : t0 ≤ (k : Int) ∧ (k : Int) < t1
          · obtain ⟨q1, q2, q3⟩ := hiff.2 hin
            obtain ⟨s1, s2⟩ := hin
            clear hiff
            go_wp2_with fail
            go_roundw
            case rel => exact ⟨k + 1, by omega, by go_num, trivial⟩
            case measure => simp [intOf]; omega
          · have hno : ¬ (a < b ∧ x0 < b ∧ a < x1) := fun h => hin (hiff.1 h)
            clear hiff
            by_cases g1 : a < b
            · by_cases g2 : x0 < b
              · have g3 : decide (a < x1) = false := decide_eq_false (by omega)
                clear hno
                by_cases s1 : t0 ≤ (k : Int)
                · have s2 : t1 ≤ (k : Int) := by omega
                  clear hin
                  go_wp2_with fail
                  go_roundw
                  case rel => exact ⟨k + 1, by omega, by go_num, trivial⟩
                  case measure => simp [intOf]; omega
                · have s1' : (k : Int) < t0 := by omega
                  clear hin
                  go_wp2_with fail
                  go_roundw
                  case rel => exact ⟨k + 1, by omega, by go_num, trivial⟩
                  case measure => simp [intOf]; omega
              · have g2' : b ≤ x0 := by omega
                clear hno
                by_cases s1 : t0 ≤ (k : Int)
                · have s2 : t1 ≤ (k : Int) := by omega
                  clear hin
                  go_wp2_with fail
                  go_roundw
                  case rel => exact ⟨k + 1, by omega, by go_num, trivial⟩
                  case measure => simp [intOf]; omega
                · have s1' : (k : Int) < t0 := by omega
                  clear hin
                  go_wp2_with fail
                  go_roundw
                  case rel => exact ⟨k + 1, by omega, by go_num, trivial⟩
                  case measure => simp [intOf]; omega
            · have g1' : b ≤ a := by omega
              clear hno
              by_cases s1 : t0 ≤ (k : Int)
              · have s2 : t1 ≤ (k : Int) := by omega
                clear hin
                go_wp2_with fail
                go_roundw
                case rel => exact ⟨k + 1, by omega, by go_num, trivial⟩
                case measure => simp [intOf]; omega
              · have s1' : (k : Int) < t0 := by omega
                clear hin
                go_wp2_with fail
                go_roundw
                case rel => exact ⟨k + 1, by omega, by go_num, trivial⟩
                case measure => simp [intOf]; omega
        · obtain rfl : k = j := by omega
          by_cases hfin : t0 < t1
          · go_wp2_with fail
            go_ret
            exact ⟨rfl, HB3.out⟩
          · obtain ⟨z0, z1⟩ := HNO.out (by omega)
            subst z0 z1
            go_wp2_with fail
            go_ret
            exact ⟨rfl, HB3.out⟩

set_option maxRecDepth 100000 in
set_option maxHeartbeats 4000000 in
theorem ftoucheslaw_any (A : Option Addr) (m c : Nat) (xs : List Int) (a b : Int) (w : World) (hx : IntsV w A m c xs) (_ha : -9223372036854775808 ≤ a ∧ a ≤ 9223372036854775807) (_hb : -9223372036854775808 ≤ b ∧ b ≤ 9223372036854775807) :
    Calls Try.prog 5 #[.slice A m c, .int .i64 a, .int .i64 b] w fun e w' => e = .returned (.bool true) ∧ Below w.heap.size w w' := by
  obtain ⟨hlen, hlie, -, hfew⟩ := hx
  by_cases h : 60 < m
  · have h' : (60 : Int) < (m : Int) := by omega
    go_enter Try.func5, Try.ntmps5
    go_wp2_with fail
    refine (alive13_any _).mono ?_
    rintro e w1 ⟨rfl, hb1⟩
    go_wp2_with fail
    go_ret
    exact ⟨rfl, hb1⟩
  · exact ftoucheslaw_in A m c xs a b w hlie hlen (by omega)
end Go.Proofs.Ytcikdndkingegaa
