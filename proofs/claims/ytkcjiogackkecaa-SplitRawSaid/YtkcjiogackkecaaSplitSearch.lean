/-
  Package split: may old be, a span looked for among spans in order, spans cloned. No statement is proved here.
-/
import Derived.Test.YtkcjiogackkecaaSplitParts
namespace Go.Proofs.Ytkcjiogackkecaa
open Go.RowKit

set_option maxRecDepth 100000 in
set_option maxHeartbeats 2000000 in
theorem may_any (a b g : Int) (S : Nat) (A : Option Addr) (m c : Nat) (l : List (Int × Int)) (w : World) (hm : l.length = m) (hx : Spans w w.heap.size A l) (hl : m ≤ 1000000) (hS : S ≤ 1000000)
    (_ha : -9223372036854775808 ≤ a ∧ a ≤ 9223372036854775807) (hb : -9223372036854775808 ≤ b ∧ b ≤ 9223372036854775807) (hg : -9223372036854775808 ≤ g ∧ g ≤ 9223372036854775807) (hlb : ∀ x ∈ l, x.2 ≤ 9223372036854775807) :
    Calls Try.prog 40 #[.slice A m c, .int .i64 (S : Int), .int .i64 a, .int .i64 b, .int .i64 g] w fun e w' => e = .returned (.bool (mayB l S a b g)) ∧ Below w.heap.size w w' := by
  obtain ⟨V, hV⟩ : ∃ V, V = mayB l S a b g := ⟨_, rfl⟩
  rw [← hV]
  have hwh : wholeB (IntKind.i64.wrap ((S : Int) - g)) l = wholeB ((S : Int) - g) l := wholeB_wrap (by omega) hlb
  obtain ⟨n, hn⟩ : ∃ n, n = wrap64 ((S : Int) - g) := ⟨_, rfl⟩
  have hn2 : n = IntKind.i64.wrap ((S : Int) - g) := by rw [hn, IntKind.wrap_i64]; unfold wrap64; omega
  rw [← hn2] at hwh
  have HF := fwhole_any n A m c l w hm hx hl
  rw [hwh] at HF
  have hsub : wrap64 ((S : Int) - g) = n := hn.symm
  cases hw : wholeB ((S : Int) - g) l with
  | false =>
    have HE : Hid (V = false) := Lib.hid (by rw [hV]; unfold mayB; rw [hw]; rfl)
    rw [hw] at HF
    have HFF := Lib.hid HF
    clear HF hw hV hwh hn hn2 hx hlb
    go_enter Try.func40, Try.ntmps40
    go_wp2_with fail
    refine HFF.out.mono ?_
    rintro e w2 ⟨rfl, hb2⟩
    have HB := Lib.hid hb2
    clear hb2
    go_wp2_with fail
    go_ret
    exact ⟨by rw [HE.out]; rfl, HB.out⟩
  | true =>
    obtain ⟨hn0, -, -, hn4⟩ := wholeB_in hw
    have hnm : (S : Int) - g ≤ 9223372036854775807 := by
      by_cases hl0 : l = []
      · subst hl0
        unfold wholeB wholeEnd at hw
        simp at hw
        omega
      · obtain ⟨x, hx1, hx2⟩ := hn4 hl0
        have := hlb x hx1
        omega
    clear hn4
    have HV : Hid (V = (decide (0 ≤ a) && decide (a ≤ b) && decide (b ≤ (S : Int)) && decide (a ≤ b - g))) := Lib.hid (by rw [hV]; unfold mayB; rw [hw, Bool.true_and])
    rw [hw, show n = (S : Int) - g by rw [hn]; unfold wrap64; omega] at HF
    have HFF := Lib.hid HF
    clear HF hw hV hwh hn hn2 hx hlb hsub
    by_cases h0 : 0 ≤ a
    case neg =>
      have HE : Hid (V = false) := Lib.hid (by rw [HV.out, decide_eq_false h0]; rfl)
      have d0 : decide (0 ≤ a) = false := decide_eq_false h0
      clear h0
      go_enter Try.func40, Try.ntmps40
      go_wp2_with fail
      refine HFF.out.mono ?_
      rintro e w2 ⟨rfl, hb2⟩
      have HB := Lib.hid hb2
      clear hb2
      go_wp2_with fail
      go_ret
      exact ⟨by rw [HE.out]; rfl, HB.out⟩
    by_cases h1 : a ≤ b
    case neg =>
      have HE : Hid (V = false) := Lib.hid (by rw [HV.out, decide_eq_false h1]; simp)
      have d1 : decide (a ≤ b) = false := decide_eq_false h1
      clear h1
      go_enter Try.func40, Try.ntmps40
      go_wp2_with fail
      refine HFF.out.mono ?_
      rintro e w2 ⟨rfl, hb2⟩
      have HB := Lib.hid hb2
      clear hb2
      go_wp2_with fail
      go_ret
      exact ⟨by rw [HE.out]; rfl, HB.out⟩
    by_cases h2 : b ≤ (S : Int)
    case neg =>
      have HE : Hid (V = false) := Lib.hid (by rw [HV.out, decide_eq_false h2]; simp)
      have d2 : decide (b ≤ (S : Int)) = false := decide_eq_false h2
      clear h2
      go_enter Try.func40, Try.ntmps40
      go_wp2_with fail
      refine HFF.out.mono ?_
      rintro e w2 ⟨rfl, hb2⟩
      have HB := Lib.hid hb2
      clear hb2
      go_wp2_with fail
      go_ret
      exact ⟨by rw [HE.out]; rfl, HB.out⟩
    have HE : Hid (V = decide (a ≤ b - g)) := Lib.hid (by rw [HV.out, decide_eq_true h0, decide_eq_true h1, decide_eq_true h2]; rfl)
    clear HV
    go_enter Try.func40, Try.ntmps40
    go_wp2_with fail
    refine HFF.out.mono ?_
    rintro e w2 ⟨rfl, hb2⟩
    have HB := Lib.hid hb2
    clear hb2
    go_wp2_with fail
    go_ret
    exact ⟨by rw [HE.out]; rfl, HB.out⟩

set_option maxRecDepth 100000 in
set_option maxHeartbeats 4000000 in
theorem search_any (p : Int) (A : Option Addr) (m c : Nat) (l : List (Int × Int)) (w : World) (hm : l.length = m) (hx : Spans w w.heap.size A l) (hl : m ≤ 1000000) (ho : ∀ (i j : Nat) (x y : Int × Int), i < j → l[i]? = some x → l[j]? = some y → x.1 < y.1) :
    Calls Try.prog 82 #[.slice A m c, .int .i64 p, .func (.func 83) #[] #[]] w fun e w' => ∃ (k : Nat) (fd : Bool), e = .returned (.tuple #[.int .i64 (k : Int), .bool fd]) ∧ (fd = true → findS l p = some k) ∧ (fd = false → findS l p = none) ∧ Below w.heap.size w w' := by
  have HX := Lib.hid hx
  have HM := Lib.hid hm
  have HO := Lib.hid ho
  have HBG := Lib.hid begins_any
  clear hx hm ho
  go_enter Try.func82, Try.ntmps82
  go_wp2_with fail
  go_loopw [9, 10, 11] (fun u v _ wr => ∃ (i j : Nat), i ≤ j ∧ j ≤ m ∧ u = .int .i64 (i : Int) ∧ v = .int .i64 (j : Int) ∧ (∀ (k : Nat) (x : Int × Int), k < i → l[k]? = some x → x.1 < p) ∧ (∀ (k : Nat) (x : Int × Int), j ≤ k → l[k]? = some x → p ≤ x.1) ∧ Below w.heap.size w wr) (fun u v _ _ => (intOf v).toNat - (intOf u).toNat)
  case atStart => exact ⟨0, m, Nat.zero_le _, Nat.le_refl _, rfl, rfl, (fun k x h => by omega), (fun k x h hx => by rw [List.getElem?_eq_none (by have := HM.out; omega)] at hx; cases hx), Below.refl _ _⟩
  case round =>
    obtain ⟨i, j, hij, hjm, rfl, rfl, hlo, hhi, hbr⟩ := hrel
    have HLO := Lib.hid hlo
    have HHI := Lib.hid hhi
    have HBR := Lib.hid hbr
    clear hlo hhi hbr
    by_cases hlt : i < j
    · have h1 : i ≤ (i + j) / 2 := by omega
      have h2 : (i + j) / 2 < j := by omega
      obtain ⟨x0, x1, hxj⟩ := spans_get HM.out (by omega : (i + j) / 2 < m)
      obtain ⟨b, off, hA, hbB, hc⟩ := HX.out (by rw [HM.out]; omega)
      obtain ⟨d0, d1⟩ := hc _ _ hxj
      have e0 : wr.cell? ⟨b, off + (i + j) / 2 * 2, none⟩ = some (.int .i64 x0) := (HBR.out.cell (p := ⟨b, off + (i + j) / 2 * 2, none⟩) hbB).trans d0
      have e1 : wr.cell? ⟨b, off + (i + j) / 2 * 2 + 1, none⟩ = some (.int .i64 x1) := (HBR.out.cell (p := ⟨b, off + (i + j) / 2 * 2 + 1, none⟩) hbB).trans d1
      have HXJ := Lib.hid hxj
      have HH : Hid (((i : Int) + (j : Int)) / 2 = (((i + j) / 2 : Nat) : Int)) := Lib.hid (by omega)
      clear hc d0 d1 hxj
      subst hA
      go_wp2_with fail
      obtain ⟨h, hh⟩ : ∃ h, h = (i + j) / 2 := ⟨_, rfl⟩
      rw [HH.out]
      rw [← hh] at h1 h2 HXJ e0 e1 ⊢
      clear HH hh
      by_cases hx0 : x0 < p
      · have hB := HBG.out x0 x1 p wr
        rw [if_pos hx0] at hB
        refine hB.mono ?_
        rintro e w2 ⟨rfl, hb2⟩
        have HB2 := Lib.hid (HBR.out.trans (hb2.mono HBR.out.size))
        clear hb2 hB
        go_wp2_with fail
        go_roundw
        case rel =>
          refine ⟨h + 1, j, by omega, hjm, by go_num, rfl, fun k x hk hx => ?_, HHI.out, HB2.out⟩
          rcases Nat.lt_or_ge k h with hkh | hkh
          · have := HO.out k h x _ hkh hx HXJ.out
            simp only at this
            omega
          · have : k = h := by omega
            subst this
            rw [HXJ.out] at hx
            injection hx with hx
            subst hx
            exact hx0
        case measure => simp [intOf]; omega
      · have hB := HBG.out x0 x1 p wr
        rw [if_neg hx0] at hB
        obtain ⟨q, hq⟩ : ∃ q : Int, q = (if p < x0 then 1 else 0) := ⟨_, rfl⟩
        rw [← hq] at hB
        have hq0 : ¬ q < 0 := by rw [hq]; split <;> omega
        clear hq
        refine hB.mono ?_
        rintro e w2 ⟨rfl, hb2⟩
        have HB2 := Lib.hid (HBR.out.trans (hb2.mono HBR.out.size))
        clear hb2 hB
        go_wp2_with fail
        go_roundw
        case rel =>
          refine ⟨i, h, by omega, by omega, rfl, rfl, HLO.out, fun k x hk hx => ?_, HB2.out⟩
          rcases Nat.lt_or_ge h k with hkh | hkh
          · have := HO.out h k _ x hkh HXJ.out hx
            simp only at this
            omega
          · have : k = h := by omega
            subst this
            rw [HXJ.out] at hx
            injection hx with hx
            subst hx
            simp only
            omega
        case measure => simp [intOf]; omega
    · obtain rfl : i = j := by omega
      by_cases hjm2 : i < m
      · obtain ⟨x0, x1, hxj⟩ := spans_get HM.out hjm2
        obtain ⟨b, off, hA, hbB, hc⟩ := HX.out (by rw [HM.out]; omega)
        obtain ⟨d0, d1⟩ := hc _ _ hxj
        have e0 : wr.cell? ⟨b, off + i * 2, none⟩ = some (.int .i64 x0) := (HBR.out.cell (p := ⟨b, off + i * 2, none⟩) hbB).trans d0
        have e1 : wr.cell? ⟨b, off + i * 2 + 1, none⟩ = some (.int .i64 x1) := (HBR.out.cell (p := ⟨b, off + i * 2 + 1, none⟩) hbB).trans d1
        have HF : Hid ((x0 = p → findS l p = some i) ∧ (x0 ≠ p → findS l p = none)) := Lib.hid (by
          refine ⟨fun h => ?_, fun h => ?_⟩
          · cases hf : findS l p with
            | none => exact absurd h (findS_none hf i _ hxj)
            | some k =>
              obtain ⟨y1, hy⟩ := findS_some hf
              rcases Nat.lt_trichotomy k i with hk | hk | hk
              · have := HO.out k i _ _ hk hy hxj; simp only at this; omega
              · rw [hk]
              · have := HO.out i k _ _ hk hxj hy; simp only at this; omega
          · cases hf : findS l p with
            | none => rfl
            | some k =>
              exfalso
              obtain ⟨y1, hy⟩ := findS_some hf
              rcases Nat.lt_trichotomy k i with hk | hk | hk
              · have := HLO.out k _ hk hy; simp only at this; omega
              · subst hk; rw [hxj] at hy; injection hy with hy; injection hy with hy; omega
              · have h1 := HO.out i k _ _ hk hxj hy
                have h2 := HHI.out i _ (Nat.le_refl _) hxj
                simp only at h1 h2
                omega)
        have HGE := Lib.hid (HHI.out i _ (Nat.le_refl _) hxj)
        clear hc d0 d1 hxj
        subst hA
        have hlI : decide ((i : Int) < (m : Int)) = true := decide_eq_true (by omega)
        go_wp2_with fail
        have hB := HBG.out x0 x1 p wr
        have hge : p ≤ x0 := HGE.out
        rw [if_neg (by omega)] at hB
        by_cases hxp : p < x0
        · rw [if_pos hxp] at hB
          refine hB.mono ?_
          rintro e w2 ⟨rfl, hb2⟩
          have HB2 := Lib.hid (HBR.out.trans (hb2.mono HBR.out.size))
          clear hb2 hB
          go_wp2_with fail
          go_ret2
          exact ⟨i, false, rfl, (fun h => by cases h), (fun _ => HF.out.2 (by omega)), HB2.out⟩
        · rw [if_neg hxp] at hB
          refine hB.mono ?_
          rintro e w2 ⟨rfl, hb2⟩
          have HB2 := Lib.hid (HBR.out.trans (hb2.mono HBR.out.size))
          clear hb2 hB
          go_wp2_with fail
          go_ret2
          exact ⟨i, true, rfl, (fun _ => HF.out.1 (by omega)), (fun h => by cases h), HB2.out⟩
      · have HN : Hid (findS l p = none) := Lib.hid (by
          cases hf : findS l p with
          | none => rfl
          | some k =>
            exfalso
            obtain ⟨y1, hy⟩ := findS_some hf
            rcases Nat.lt_or_ge k i with hk | hk
            · have := HLO.out k _ hk hy; simp only at this; omega
            · rw [List.getElem?_eq_none (by have := HM.out; omega)] at hy; cases hy)
        have hlI : decide ((i : Int) < (m : Int)) = false := decide_eq_false (by omega)
        go_wp2_with fail
        go_ret2
        exact ⟨i, false, rfl, (fun h => by cases h), (fun _ => HN.out), HBR.out⟩
end Go.Proofs.Ytkcjiogackkecaa
