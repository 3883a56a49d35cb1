/-
  Package split's parts: which old spans stay, whether old may be, spans moved, a span looked for. No statement is proved here.
-/
import Derived.Test.YtkcjiogackkecaaSplitSmall
import Derived.Test.YtkcjiogackkecaaRowMore
import Derived.Deep.AppendLies
namespace Go.Proofs.Ytkcjiogackkecaa
open Go.RowKit

theorem wfold_in : ∀ (l : List (Int × Int)) (a e : Int), l.foldl wstep (some a) = some e → a ≤ e ∧ (∀ (k : Nat) (x : Int × Int), l[k]? = some x → a ≤ x.1 ∧ x.1 < x.2 ∧ x.2 ≤ e) ∧ (∀ (i j : Nat) (x y : Int × Int), i < j → l[i]? = some x → l[j]? = some y → x.2 ≤ y.1) ∧ (l ≠ [] → ∃ x ∈ l, x.2 = e)
  | [], a, e, h => by
    simp only [List.foldl_nil, Option.some.injEq] at h
    exact ⟨by omega, fun k x hx => by simp at hx, fun i j x y _ hx => by simp at hx, fun h => absurd rfl h⟩
  | y :: r, a, e, h => by
    rw [List.foldl_cons, show wstep (some a) y = if y.1 ≠ a ∨ y.2 ≤ a then none else some y.2 from rfl] at h
    by_cases hy : y.1 ≠ a ∨ y.2 ≤ a
    · rw [if_pos hy] at h
      rw [wfold_none] at h
      cases h
    · rw [if_neg hy] at h
      obtain ⟨h1, h2, h3, h4⟩ := wfold_in r y.2 e h
      have q1 : y.1 = a := by omega
      have q2 : a < y.2 := by omega
      refine ⟨by omega, fun k x hx => ?_, fun i j x z hij hx hz => ?_, fun _ => ?_⟩
      · cases k with
        | zero => simp at hx; subst hx; omega
        | succ k => have := h2 k x (by simpa using hx); omega
      · cases j with
        | zero => omega
        | succ j =>
          have hz' : r[j]? = some z := by simpa using hz
          cases i with
          | zero => simp at hx; subst hx; exact (h2 j z hz').1
          | succ i => exact h3 i j x z (by omega) (by simpa using hx) hz'
      · by_cases hr : r = []
        · subst hr
          simp at h
          exact ⟨y, by simp, h⟩
        · obtain ⟨x, hx, hxe⟩ := h4 hr
          exact ⟨x, List.mem_cons_of_mem _ hx, hxe⟩
theorem wholeB_in {n : Int} {l : List (Int × Int)} (h : wholeB n l = true) : 0 ≤ n ∧ (∀ (k : Nat) (x : Int × Int), l[k]? = some x → 0 ≤ x.1 ∧ x.1 < x.2 ∧ x.2 ≤ n) ∧ (∀ (i j : Nat) (x y : Int × Int), i < j → l[i]? = some x → l[j]? = some y → x.2 ≤ y.1) ∧ (l ≠ [] → ∃ x ∈ l, x.2 = n) := by
  unfold wholeB at h
  exact wfold_in l 0 n (by simpa [wholeEnd] using h)
/-- A length beyond an int is that of none. -/
theorem wholeB_wrap {n : Int} {l : List (Int × Int)} (hn : -9223372036854775808 ≤ n ∧ n ≤ 9223372036856775808) (hl : ∀ x ∈ l, x.2 ≤ 9223372036854775807) : wholeB (IntKind.i64.wrap n) l = wholeB n l := by
  by_cases h : n ≤ 9223372036854775807
  · rw [show IntKind.i64.wrap n = n by rw [IntKind.wrap_i64]; omega]
  · have h1 : wholeB n l = false := by
      cases hw : wholeB n l with
      | false => rfl
      | true =>
        obtain ⟨_, _, _, h4⟩ := wholeB_in hw
        by_cases hn : l = []
        · subst hn
          unfold wholeB wholeEnd at hw
          simp at hw
          omega
        · obtain ⟨x, hx, hxe⟩ := h4 hn
          have := hl x hx
          omega
    rw [h1]
    cases hw : wholeB (IntKind.i64.wrap n) l with
    | false => rfl
    | true =>
      obtain ⟨h2, _⟩ := wholeB_in hw
      rw [IntKind.wrap_i64] at h2
      omega

set_option maxRecDepth 100000 in
set_option maxHeartbeats 2000000 in
theorem moved_any (g : Int) (A : Option Addr) (m c : Nat) (l : List (Int × Int)) (w : World) (hm : l.length = m) (hx : Spans w w.heap.size A l) (hl : m ≤ 1000000) (hg : ∀ x ∈ l, (0 ≤ x.1 + g ∧ x.1 + g ≤ 1000000) ∧ 0 ≤ x.2 + g ∧ x.2 + g ≤ 1000000) :
    Calls Try.prog 84 #[.int .i64 g, .slice A m c] w fun e w' => ∃ p cap, e = .returned (.slice p m cap) ∧ w'.ownsRow w.heap.size 36 2 (.slice p m cap) m (flatS (l.map (shS g))) ∧ Below w.heap.size w w' := by
  obtain ⟨i0, hi, hz0, hz1, hz2⟩ := info_parts hspans_info
  have HX := Lib.hid hx
  have HM := Lib.hid hm
  have HG := Lib.hid hg
  clear hx hm hg
  go_enter Try.func84, Try.ntmps84
  go_wp2_with fail
  go_loopw [5, 7, 10] (fun v x i wr => ∃ (j : Nat), j ≤ m ∧ i = .int .i64 j ∧ wr.ownsRow w.heap.size 36 2 v j (flatS ((l.map (shS g)).take j)) ∧ Below w.heap.size w wr) (fun _ _ i _ => m - (intOf i).toNat)
  case atStart => exact ⟨0, Nat.zero_le _, rfl, World.ownsRow_nil _ _ _ _, Below.refl _ _⟩
  case round =>
    obtain ⟨j, hj, rfl, hown, hbr⟩ := hrel
    obtain ⟨p, cap, rfl, -, -, -, -⟩ := krow_form hown
    have HOWN := Lib.hid hown
    have HBR := Lib.hid hbr
    clear hown hbr
    by_cases hlt : j < m
    · obtain ⟨x0, x1, hxj⟩ := spans_get HM.out hlt
      obtain ⟨b, off, hA, hbB, hc⟩ := HX.out (by rw [HM.out]; omega)
      obtain ⟨d0, d1⟩ := hc j _ hxj
      have e0 : wr.cell? ⟨b, off + j * 2, none⟩ = some (.int .i64 x0) := (HBR.out.cell (p := ⟨b, off + j * 2, none⟩) hbB).trans d0
      have e1 : wr.cell? ⟨b, off + j * 2 + 1, none⟩ = some (.int .i64 x1) := (HBR.out.cell (p := ⟨b, off + j * 2 + 1, none⟩) hbB).trans d1
      obtain ⟨⟨hg0, hg1⟩, hg2, hg3⟩ := HG.out _ (List.mem_of_getElem? hxj)
      simp only at hg0 hg1 hg2 hg3
      obtain ⟨y0, hy0⟩ : ∃ y, y = x0 + g := ⟨_, rfl⟩
      obtain ⟨y1, hy1⟩ : ∃ y, y = x1 + g := ⟨_, rfl⟩
      have hw0 : wrap64 (x0 + g) = y0 := by rw [hy0]; unfold wrap64; omega
      have hw1 : wrap64 (x1 + g) = y1 := by rw [hy1]; unfold wrap64; omega
      have HSN : Hid (flatS ((l.map (shS g)).take j) ++ [.int .i64 y0, .int .i64 y1] = flatS ((l.map (shS g)).take (j + 1))) := Lib.hid (by
        rw [List.take_add_one, List.getElem?_map, hxj, flatS_append, hy0, hy1]
        rfl)
      have hbr2 : Below w.heap.size w (wr.alloc (.cells #[.int .i64 x0, .int .i64 x1] 36)) := HBR.out.alloc HBR.out.size _
      have HB2 := Lib.hid hbr2
      have HS2 := Lib.hid HBR.out.size
      have HO2 := Lib.hid (HOWN.out.alloc (.cells #[.int .i64 x0, .int .i64 x1] 36))
      clear hxj hc d0 d1 hbr2 hy0 hy1 hg0 hg1 hg2 hg3
      subst hA
      have hj6 : j + 1 ≤ 1000001 := by omega
      go_wp2_with (at_builtin; refine wpList_append_lies _ rfl (.tmp 14) (.tmp 24) 33 rfl w.heap.size 36 i0 (.agg #[.int .i64 0, .int .i64 0]) 2 16 Try.underlying33 hi hz0 hz1 hz2 rfl (by omega) _ j _ rfl (HO2.out.alloc _) ⟨wr.heap.size + 1, 0, none⟩ 1 1 [.int .i64 y0, .int .i64 y1] rfl rfl ?c1 ?c2 (by omega) (by unfold maxLen; omega) (by omega) (by have := HS2.out; simp; omega) _ rfl ?_)
      case c1 =>
        have h := World.news_of_block (heap_alloc_new (wr.alloc (.cells #[.int .i64 x0, .int .i64 x1] 36)) (.cells #[.int .i64 y0, .int .i64 y1] 36))
        have e : (wr.alloc (.cells #[.int .i64 x0, .int .i64 x1] 36)).heap.size = wr.heap.size + 1 := by simp
        rw [e] at h
        exact h
      case c2 => intro u hu; simp at hu; rcases hu with rfl | rfl <;> rfl
      intro g' cap2 w3 hown3 hg3 hor3 hlt3
      have hb3 : Below w.heap.size w w3 := (HB2.out.alloc HB2.out.size _).grown hg3 (by have := HS2.out; simp; omega) (fun k hk => (HO2.out.lt k hk).1)
      have HB33 := Lib.hid hb3
      rw [HSN.out] at hown3
      have HOW3 := Lib.hid hown3
      clear hown3 hg3 hor3 hb3 hlt3
      go_wp2_with fail
      go_roundw
      case rel => exact ⟨j + 1, by omega, by go_num, HOW3.out, HB33.out⟩
      case measure => simp [intOf]; omega
    · obtain rfl : j = m := by omega
      have hown := HOWN.out
      rw [List.take_of_length_le (by rw [List.length_map, HM.out]; exact Nat.le_refl _)] at hown
      have HO := Lib.hid hown
      clear hown
      go_wp2_with fail
      go_ret
      exact ⟨p, cap, rfl, HO.out, HBR.out⟩
set_option maxRecDepth 100000 in
set_option maxHeartbeats 2000000 in
theorem ahead_any (a : Int) (same : Bool) (A : Option Addr) (m c : Nat) (l : List (Int × Int)) (w : World) (hm : l.length = m) (hx : Spans w w.heap.size A l) (hl : m ≤ 1000000) :
    Calls Try.prog 41 #[.slice A m c, .int .i64 a, .bool same] w fun e w' => e = .returned (.int .i64 (stayN l a same : Int)) ∧ w' = w := by
  have HX := Lib.hid hx
  have HM := Lib.hid hm
  clear hx hm
  go_enter Try.func41, Try.ntmps41
  go_wp2_with fail
  go_loopw [7] (fun i wr => ∃ (j : Nat), j ≤ m ∧ i = .int .i64 j ∧ (∀ (k : Nat) (x : Int × Int), k < j → l[k]? = some x → x.2 ≤ a) ∧ wr = w) (fun i _ => m - (intOf i).toNat)
  case atStart => exact ⟨0, Nat.zero_le _, rfl, fun k x h => by omega, rfl⟩
  case round =>
    obtain ⟨j, hj, rfl, hall, rfl⟩ := hrel
    have HALL := Lib.hid hall
    clear hall
    have HTW : Hid ((∀ x, l[j]? = some x → ¬ x.2 ≤ a) → aheadN l a = j) := Lib.hid (fun h => by
      unfold aheadN
      exact take_while_len _ l j (by rw [HM.out]; exact hj) (fun i x hi hx => decide_eq_true (HALL.out i x hi hx)) (fun x hx => decide_eq_false (h x hx)))
    by_cases hlt : j < m
    · obtain ⟨x0, x1, hxj⟩ := spans_get HM.out hlt
      obtain ⟨b, off, hA, hbB, hc⟩ := HX.out (by rw [HM.out]; omega)
      obtain ⟨d0, d1⟩ := hc j _ hxj
      have HXJ := Lib.hid hxj
      clear hxj hc d0
      subst hA
      simp only at d1
      have hltI : decide ((j : Int) < (m : Int)) = true := decide_eq_true (by omega)
      by_cases hle : x1 ≤ a
      · have hd : decide (x1 ≤ a) = true := decide_eq_true hle
        go_wp2_with fail
        go_roundw
        case rel =>
          refine ⟨j + 1, by omega, by go_num, fun k x hk hx => ?_, by first | rfl | trivial⟩
          rcases Nat.lt_or_ge k j with h | h
          · exact HALL.out k x h hx
          · have : k = j := by omega
            subst this
            rw [HXJ.out] at hx
            injection hx with hx
            subst hx
            exact hle
        case measure => simp [intOf]; omega
      · have hd : decide (x1 ≤ a) = false := decide_eq_false hle
        have hA := HTW.out (fun x hx => by rw [HXJ.out] at hx; injection hx with hx; subst hx; exact hle)
        have HE : Hid (stayN l a same = j) := Lib.hid (by unfold stayN; rw [hA, HM.out, if_neg (by omega)])
        clear hA
        have hne : decide ((j : Int) = (m : Int)) = false := decide_eq_false (by omega)
        by_cases h0 : 0 < j
        · have h0I : decide ((0 : Int) < (j : Int)) = true := decide_eq_true (by omega)
          go_wp2_with fail
          go_ret
          exact ⟨by rw [HE.out]; rfl, rfl⟩
        · have h0I : decide ((0 : Int) < (j : Int)) = false := decide_eq_false (by omega)
          go_wp2_with fail
          go_ret
          exact ⟨by rw [HE.out]; rfl, rfl⟩
    · obtain rfl : j = m := by omega
      have hA := HTW.out (fun x hx => by rw [List.getElem?_eq_none (by rw [HM.out]; exact Nat.le_refl _)] at hx; cases hx)
      by_cases h0 : 0 < j
      · have h0I : (0 : Int) < (j : Int) := by omega
        cases same with
        | true =>
          have HE : Hid (stayN l a true = j) := Lib.hid (by unfold stayN; rw [hA, HM.out, if_neg (by simp)])
          clear hA
          go_wp2_with fail
          go_ret
          exact ⟨by rw [HE.out]; rfl, rfl⟩
        | false =>
          have HE : Hid (stayN l a false = j - 1) := Lib.hid (by unfold stayN; rw [hA, HM.out, if_pos ⟨h0, rfl, rfl⟩])
          clear hA
          go_wp2_with fail
          go_ret
          refine ⟨?_, rfl⟩
          rw [HE.out]
          show Ending.returned (.int .i64 _) = _
          congr 2
          try rw [IntKind.wrap_i64]
          omega
      · have h0I : ¬ (0 : Int) < (j : Int) := by omega
        have HE : Hid (stayN l a same = j) := Lib.hid (by unfold stayN; rw [hA, HM.out, if_neg (by omega)])
        clear hA
        go_wp2_with fail
        go_ret
        exact ⟨by rw [HE.out]; rfl, rfl⟩
end Go.Proofs.Ytkcjiogackkecaa
