/-
  masonrybook's lists of spans: lent, kept, held against each other. No statement is proved here.
-/
import Derived.Test.YtkcjiogackkecaaProg
import Derived.Test.YtkcjiogackkecaaRowMore
import Derived.BigCall
import Derived.Deep.CutRange
import Derived.Lib.SliceRun
import Derived.Deep.AppendLies
import Derived.Deep.RegionHeld3
import Derived.Deep.QuietTactic
import Derived.BigQuiet
import Derived.Outline
namespace Go.Proofs.Ytkcjiogackkecaa
open Go.RowKit

def flatS (l : List (Int × Int)) : List Value := l.flatMap fun x => [.int .i64 x.1, .int .i64 x.2]
theorem flatS_len (l : List (Int × Int)) : (flatS l).length = l.length * 2 := by
  induction l with
  | nil => rfl
  | cons x r ih => show (_ :: _ :: flatS r).length = _; rw [List.length_cons, List.length_cons, ih, List.length_cons]; omega
theorem flatS_get {l : List (Int × Int)} {j : Nat} {x : Int × Int} (h : l[j]? = some x) : (flatS l)[2 * j]? = some (.int .i64 x.1) ∧ (flatS l)[2 * j + 1]? = some (.int .i64 x.2) := by
  induction l generalizing j with
  | nil => cases h
  | cons y r ih =>
    have e : flatS (y :: r) = .int .i64 y.1 :: .int .i64 y.2 :: flatS r := rfl
    rw [e]
    cases j with
    | zero =>
      rw [List.getElem?_cons_zero] at h
      injection h with h
      subst h
      exact ⟨rfl, rfl⟩
    | succ j =>
      rw [List.getElem?_cons_succ] at h
      have := ih h
      rw [show 2 * (j + 1) = (2 * j + 1) + 1 by omega, show (2 * j + 1) + 1 + 1 = (2 * j + 1 + 1) + 1 by omega]
      simp only [List.getElem?_cons_succ]
      exact this
theorem flatS_cells {l : List (Int × Int)} {f : Nat → Option Value} (h : ∀ (j : Nat) (x : Int × Int), l[j]? = some x → f (j * 2) = some (.int .i64 x.1) ∧ f (j * 2 + 1) = some (.int .i64 x.2)) : ∀ (j : Nat) (u : Value), (flatS l)[j]? = some u → f j = some u := by
  intro j u hu
  have hj : j < l.length * 2 := by
    rcases Nat.lt_or_ge j (l.length * 2) with h | h
    · exact h
    · rw [List.getElem?_eq_none (by rw [flatS_len]; exact h)] at hu; cases hu
  obtain ⟨x, hx⟩ : ∃ x, l[j / 2]? = some x := ⟨l[j / 2]'(by omega), List.getElem?_eq_getElem (by omega)⟩
  obtain ⟨q1, q2⟩ := flatS_get hx
  obtain ⟨h1, h2⟩ := h _ _ hx
  rcases Nat.mod_two_eq_zero_or_one j with e | e
  · have ej : 2 * (j / 2) = j := by omega
    have ej' : j / 2 * 2 = j := by omega
    rw [ej] at q1
    rw [ej'] at h1
    rw [hu] at q1
    rw [h1, ← q1]
  · have ej : 2 * (j / 2) + 1 = j := by omega
    have ej' : j / 2 * 2 + 1 = j := by omega
    rw [ej] at q2
    rw [ej'] at h2
    rw [hu] at q2
    rw [h2, ← q2]
theorem flatS_one {l : List (Int × Int)} : ∀ u ∈ flatS l, u.oneCell' = true := by
  intro u hu
  unfold flatS at hu
  simp only [List.mem_flatMap] at hu
  obtain ⟨x, _, hu⟩ := hu
  simp at hu
  rcases hu with rfl | rfl <;> rfl

/-- A list of spans as a slice: nil, empty or not. -/
def Spans (w : World) (B : Nat) (A : Option Addr) (l : List (Int × Int)) : Prop :=
  0 < l.length → ∃ b off, A = some ⟨b, off, none⟩ ∧ b < B ∧ ∀ (j : Nat) (x : Int × Int), l[j]? = some x → w.cell? ⟨b, off + j * 2, none⟩ = some (.int .i64 x.1) ∧ w.cell? ⟨b, off + j * 2 + 1, none⟩ = some (.int .i64 x.2)
theorem Spans.nil (w : World) (B : Nat) (A : Option Addr) : Spans w B A [] := fun h => absurd h (by simp)
theorem Spans.more {w : World} {B B' : Nat} {A : Option Addr} {xs : List (Int × Int)} (h : Spans w B A xs) (hB : B ≤ B') : Spans w B' A xs := fun hp => by
  obtain ⟨b, off, e, hb, hc⟩ := h hp
  exact ⟨b, off, e, by omega, hc⟩
theorem Spans.keep {w w' : World} {B : Nat} {A : Option Addr} {xs : List (Int × Int)} (h : Spans w B A xs) (hk : ∀ p : Addr, p.block < B → w'.cell? p = w.cell? p) : Spans w' B A xs := by
  intro hp
  obtain ⟨b, off, e, hb, hc⟩ := h hp
  exact ⟨b, off, e, hb, fun j x hx => ⟨(hk _ hb).trans (hc j x hx).1, (hk _ hb).trans (hc j x hx).2⟩⟩
theorem Spans.below {w w' : World} {B : Nat} {A : Option Addr} {xs : List (Int × Int)} (h : Spans w B A xs) (hb : Below B w w') : Spans w' B A xs := h.keep fun _ hp => hb.cell hp
theorem row_spans {w : World} {base : Nat} {A : Option Addr} {c : Nat} {l : List (Int × Int)} (h : w.ownsRow base 36 2 (.slice A l.length c) l.length (flatS l)) : Spans w w.heap.size A l := fun hp => by
  obtain ⟨gv, cap, e, _, hlt2⟩ := h.form hp
  injection e with e1 _ e3
  subst e1 e3
  refine ⟨gv, 0, rfl, hlt2, fun i x hx => ?_⟩
  obtain ⟨q1, q2⟩ := flatS_get hx
  have r1 := h.cells (g := gv) rfl _ _ q1
  have r2 := h.cells (g := gv) rfl _ _ q2
  rw [add_off] at r1 r2
  rw [Nat.mul_comm i 2]
  exact ⟨r1, r2⟩
theorem hspans_info : (Try.prog.info? 36).map (fun i => (i.zero, i.size, i.bytes)) = some (some (.agg #[.int .i64 0, .int .i64 0]), 2, 16) := by kernel_rfl

set_option maxRecDepth 100000 in
set_option maxHeartbeats 1000000 in
theorem scopy_any (A : Option Addr) (m c : Nat) (xs : List (Int × Int)) (w : World) (hm : xs.length = m) (hx : Spans w w.heap.size A xs) (hl : m ≤ 1000000) (h0 : A = none → c = 0) :
    Calls Try.prog 38 #[.slice A m c] w fun e w' => ∃ v, e = .returned v ∧ w'.ownsRow w.heap.size 36 2 v m (flatS xs) ∧ Below w.heap.size w w' := by
  obtain ⟨i0, hi, hz0, hz1, hz2⟩ := info_parts hspans_info
  have HX := Lib.hid hx
  have HM := Lib.hid hm
  have H0 := Lib.hid h0
  clear hx hm h0
  rcases A with _ | ad
  · obtain rfl : c = 0 := H0.out rfl
    have hm0 : m = 0 := by
      rcases Nat.eq_zero_or_pos m with h | h
      · exact h
      · obtain ⟨b, off, e, _⟩ := HX.out (by rw [HM.out]; exact h)
        cases e
    subst hm0
    have hxs : xs = [] := List.eq_nil_of_length_eq_zero HM.out
    subst hxs
    go_enter Try.func38, Try.ntmps38
    go_wp2_with (at_builtin; refine wpList_append_own_none rfl _ _ 33 rfl w.heap.size 36 i0 2 Try.underlying33 hi (.slice none 0 0) 0 [] rfl (World.ownsRow_nil _ _ _ _) rfl ?_)
    go_ret
    exact ⟨_, rfl, World.ownsRow_nil _ _ _ _, Below.refl _ _⟩
  · have hnews : ∀ (j : Nat) (u : Value), (flatS xs)[j]? = some u → w.cell? (ad.add j) = some u := by
      intro j u hu
      have hj : 0 < xs.length := by
        cases xs with
        | nil => cases hu
        | cons _ _ => simp
      obtain ⟨b, off, e, hB, hc⟩ := HX.out hj
      injection e with e
      subst e
      rw [Go.WideShapes.add_plain]
      exact flatS_cells (f := fun j => w.cell? ⟨b, off + j, none⟩) (fun j x hx => hc j x hx) j u hu
    have HN := Lib.hid hnews
    have HO := Lib.hid (flatS_one (l := xs))
    have HK : Hid ((flatS xs).length = m * 2) := Lib.hid (by rw [flatS_len, HM.out])
    clear hnews
    go_enter Try.func38, Try.ntmps38
    go_wp2_with (at_builtin; refine wpList_append_own _ rfl _ _ 33 rfl w.heap.size 36 i0 (.agg #[.int .i64 0, .int .i64 0]) 2 16 Try.underlying33 hi hz0 hz1 hz2 rfl (by omega) (.slice none 0 0) 0 [] rfl (World.ownsRow_nil _ _ _ _) ad m c (flatS xs) rfl HK.out HN.out HO.out (by unfold maxLen; omega) (by omega) (Nat.le_refl _) ?_; intro v1 w1 hown1 hg1 _)
    have hb1 : Below w.heap.size w w1 := (Below.refl _ _).grown hg1 (Nat.le_refl _) (by simp [Value.ownBlock])
    clear hg1
    have HOW := Lib.hid hown1
    clear hown1
    go_wp2_with fail
    go_ret
    exact ⟨v1, rfl, by simpa using HOW.out, hb1⟩

/-- A list lent: it lies in a block of its own, with a mark behind it that it has room for. -/
def LentS (w : World) (B g cap : Nat) (xs : List (Int × Int)) : Prop :=
  B ≤ g ∧ g < w.heap.size ∧ xs.length + 1 ≤ cap ∧ cap ≤ 9223372036854775807 ∧ ∀ (j : Nat) (x : Int × Int), (xs ++ [(-77, 0)])[j]? = some x → w.cell? ⟨g, j * 2, none⟩ = some (.int .i64 x.1) ∧ w.cell? ⟨g, j * 2 + 1, none⟩ = some (.int .i64 x.2)
theorem LentS.below {w w' : World} {B g cap : Nat} {xs : List (Int × Int)} (h : LentS w B g cap xs) (hb : Below w.heap.size w w') : LentS w' B g cap xs := by
  obtain ⟨h0, h1, h2, h3, h4⟩ := h
  exact ⟨h0, Nat.lt_of_lt_of_le h1 hb.size, h2, h3, fun j x hx => ⟨(hb.cell (p := ⟨g, j * 2, none⟩) h1).trans (h4 j x hx).1, (hb.cell (p := ⟨g, j * 2 + 1, none⟩) h1).trans (h4 j x hx).2⟩⟩
theorem LentS.spans {w : World} {B g cap : Nat} {xs : List (Int × Int)} (h : LentS w B g cap xs) : Spans w w.heap.size (some ⟨g, 0, none⟩) xs := by
  obtain ⟨h0, h1, h2, h3, h4⟩ := h
  intro _
  refine ⟨g, 0, rfl, h1, fun j x hx => ?_⟩
  rw [Nat.zero_add]
  have hj : j < xs.length := by
    rcases Nat.lt_or_ge j xs.length with h | h
    · exact h
    · rw [List.getElem?_eq_none h] at hx; cases hx
  exact h4 j x (by rw [List.getElem?_append_left hj]; exact hx)

set_option maxRecDepth 100000 in
set_option maxHeartbeats 1000000 in
theorem ssame_any (A B : Option Addr) (m c d : Nat) (xs : List (Int × Int)) (w : World) (hm : xs.length = m) (hx : Spans w w.heap.size A xs) (hy : Spans w w.heap.size B xs) (hl : m ≤ 1000000) :
    Calls Try.prog 14 #[.slice A m c, .slice B m d] w fun e w' => e = .returned (.bool true) ∧ ∃ n, w' = w.drewN n := by
  have HX := Lib.hid hx
  have HY := Lib.hid hy
  have HM := Lib.hid hm
  clear hx hm hy
  go_enter Try.func14, Try.ntmps14
  go_wp2_with fail
  go_loopw [5] (fun i wr => ∃ (j n : Nat), j ≤ m ∧ i = .int .i64 j ∧ wr = w.drewN n) (fun i _ => m - (intOf i).toNat)
  case atStart => exact ⟨0, 0, Nat.zero_le _, rfl, rfl⟩
  case round =>
    obtain ⟨j, n, hj, rfl, rfl⟩ := hrel
    by_cases hlt : j < m
    · have hxl : j < xs.length := by rw [HM.out]; exact hlt
      obtain ⟨b, off, hA, hbB, hc⟩ := HX.out (by omega)
      obtain ⟨b', off', hA', hbB', hc'⟩ := HY.out (by omega)
      obtain ⟨x, hx⟩ : ∃ x, x = xs[j] := ⟨_, rfl⟩
      have hxj : xs[j]? = some x := by rw [hx]; exact List.getElem?_eq_getElem hxl
      obtain ⟨d0, d1⟩ := hc j x hxj
      obtain ⟨d2, d3⟩ := hc' j x hxj
      obtain ⟨xa, xs'⟩ := x
      simp only at d0 d1 d2 d3
      clear hxj hc hx hc'
      subst hA
      subst hA'
      go_wp2_with fail
      go_quiet (fail)
      go_wp2_with fail
      go_roundw
      case rel => exact ⟨j + 1, _, by omega, by go_num, rfl⟩
      case measure => simp [intOf]; omega
    · obtain rfl : j = m := by omega
      go_wp2_with fail
      go_ret
      exact ⟨rfl, _, rfl⟩

set_option maxRecDepth 100000 in
set_option maxHeartbeats 1000000 in
theorem slent_any (A : Option Addr) (m c : Nat) (xs : List (Int × Int)) (w : World) (hm : xs.length = m) (hx : Spans w w.heap.size A xs) (hl : m ≤ 900000) (h0 : A = none → c = 0) :
    Calls Try.prog 24 #[.slice A m c] w fun e w' => ∃ g cap, e = .returned (.slice (some ⟨g, 0, none⟩) m cap) ∧ LentS w' w.heap.size g cap xs ∧ Below w.heap.size w w' := by
  obtain ⟨i0, hi, hz0, hz1, hz2⟩ := info_parts hspans_info
  have HC := Lib.hid (scopy_any A m c xs w hm hx (by omega) h0)
  have HM := Lib.hid hm
  clear hx hm h0
  go_enter Try.func24, Try.ntmps24
  go_wp2_with fail
  refine HC.out.mono ?_
  rintro e w1 ⟨v, rfl, hown, hb1⟩
  have HOWN := Lib.hid hown
  clear hown
  go_wp2_with (at_builtin; refine wpList_append_lies _ rfl (.tmp 4) (.tmp 6) 33 rfl w.heap.size 36 i0 (.agg #[.int .i64 0, .int .i64 0]) 2 16 Try.underlying33 hi hz0 hz1 hz2 rfl (by omega) _ m _ rfl (HOWN.out.alloc _) ⟨w1.heap.size, 0, none⟩ 1 1 [.int .i64 (-77), .int .i64 0] rfl rfl ?c1 ?c2 (by omega) (by unfold maxLen; omega) (by omega) (by have := hb1.size; simp; omega) _ rfl ?_)
  case c1 => exact World.news_of_block (heap_alloc_new w1 _)
  case c2 => intro u hu; simp at hu; rcases hu with rfl | rfl <;> rfl
  intro g cap w2 hown2 hg2 hor hlt2
  have hb2 : Below w.heap.size w w2 := (hb1.alloc hb1.size _).grown hg2 (by have := hb1.size; simp; omega) (fun k hk => (HOWN.out.lt k hk).1)
  have hform : m + 1 ≤ cap ∧ cap ≤ 9223372036854775807 ∧ w.heap.size ≤ g := by
    rcases hown2.2 with ⟨h, _⟩ | ⟨g', cap', cur, h, hg', _, h1, h2, _⟩
    · cases h
    · injection h with e1 e2 e3
      injection e1 with e1
      injection e1 with e1
      subst e1 e3
      exact ⟨h1, h2, hg'⟩
  obtain ⟨hc1, hc2, hc3⟩ := hform
  have hlent : LentS w2 w.heap.size g cap xs := by
    refine ⟨hc3, hlt2, by rw [HM.out]; exact hc1, hc2, fun j x hx => ?_⟩
    have e : flatS xs ++ [Value.int .i64 (-77), .int .i64 0] = flatS (xs ++ [(-77, 0)]) := by simp [flatS]
    obtain ⟨q1, q2⟩ := flatS_get hx
    rw [← e] at q1 q2
    have r1 := hown2.cells (g := g) rfl _ _ q1
    have r2 := hown2.cells (g := g) rfl _ _ q2
    rw [Go.WideShapes.add_plain, Nat.zero_add] at r1 r2
    rw [Nat.mul_comm j 2]
    exact ⟨r1, r2⟩
  have HL := Lib.hid hlent
  clear hlent hown2 hg2 hor hb1
  go_wp2_with fail
  go_ret
  exact ⟨g, cap, rfl, HL.out, hb2⟩

set_option maxRecDepth 100000 in
set_option maxHeartbeats 1000000 in
theorem sstays_any (g cap : Nat) (A : Option Addr) (m d : Nat) (xs : List (Int × Int)) (B0 : Nat) (w : World) (hm : xs.length = m) (hL : LentS w B0 g cap xs) (hx : Spans w w.heap.size A xs) (hl : m ≤ 1000000) :
    Calls Try.prog 27 #[.slice (some ⟨g, 0, none⟩) m cap, .slice A m d] w fun e w' => e = .returned (.bool true) ∧ ∃ n, w' = w.drewN n := by
  have HS := Lib.hid (ssame_any (some ⟨g, 0, none⟩) A m cap d xs w hm hL.spans hx hl)
  obtain ⟨h0, h1, h2, h3, h4⟩ := hL
  have hc : w.cell? ⟨g, m * 2, none⟩ = some (.int .i64 (-77)) := (h4 m (-77, 0) (by rw [List.getElem?_append_right (by omega), hm, Nat.sub_self]; rfl)).1
  have h2' : m + 1 ≤ cap := by omega
  clear hx hm h0 h4 h2
  go_enter Try.func27, Try.ntmps27
  go_wp2_with fail
  refine HS.out.mono ?_
  rintro e w1 ⟨rfl, n, rfl⟩
  go_wp2_with fail
  go_ret
  exact ⟨rfl, n, rfl⟩
end Go.Proofs.Ytkcjiogackkecaa
