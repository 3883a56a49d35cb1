/-
  CdcMeets, walked. No statement is proved here.
-/
import Derived.Test.YtnmdpbnddbccmaaCdcAloneWalk
import Derived.Test.YtnmdpbnddbccmaaLoose
import Derived.Deep.CutBlock
namespace Go.Proofs.Ytnmdpbnddbccmaa
open Go.RowKit

theorem cat2 (a b : ByteArray) : cats [a, b] = a.data.toList ++ b.data.toList := by simp [cats]
/-- Two lists of cuts that go on alike. -/
def Alike (X Y : List (Int × Int)) (i k : Nat) : Prop := X.length - i = Y.length - k ∧ ∀ (j : Nat) (x0 x1 y0 y1 : Int), X[i + j]? = some (x0, x1) → Y[k + j]? = some (y0, y1) → y1 - y0 = x1 - x0
theorem alike_of {X Y : List (Int × Int)} {i k : Nat} {d : Int} (h : Y.drop k = (X.drop i).map fun x => (x.1 + d, x.2 + d)) : Alike X Y i k := by
  refine ⟨?_, fun j x0 x1 y0 y1 hx hy => ?_⟩
  · have := congrArg List.length h
    rw [List.length_map, List.length_drop, List.length_drop] at this
    exact this.symm
  · rw [← List.getElem?_drop, h, List.getElem?_map, List.getElem?_drop, hx] at hy
    simp only [Option.map_some, Option.some.injEq, Prod.mk.injEq] at hy
    omega
theorem txts_two {w : World} {q : Nat} {a b : ByteArray} (h : Blk w q 9 #[.string a, .string b]) : Txts w w.heap.size (some ⟨q, 0, none⟩) [a, b] := fun _ => ⟨q, 0, rfl, h.lt, fun j x hx => by
  match j, hx with
  | 0, hx => simp at hx; subst hx; exact h.cell 0
  | 1, hx => simp at hx; subst hx; exact h.cell 1
  | j + 2, hx => simp at hx⟩

set_option maxRecDepth 100000 in
set_option maxHeartbeats 8000000 in
theorem cmeets_in (a b s : ByteArray) (w : World) (ha : a.size ≤ 600) (hb : b.size ≤ 600) (hs : s.size ≤ 900) :
    Calls Try.prog 5 #[.string a, .string b, .string s] w fun e w' => e = .returned (.bool true) ∧ Below w.heap.size w w' := by
  have hla : a.data.toList.length = a.size := by rw [← Lib.size_eq]
  have hlb : b.data.toList.length = b.size := by rw [← Lib.size_eq]
  have hls : s.data.toList.length = s.size := by rw [← Lib.size_eq]
  obtain ⟨X, hX⟩ : ∃ X, X = cutL dfl 0 (cats [a, s]) := ⟨_, rfl⟩
  obtain ⟨Y, hY⟩ : ∃ Y, Y = cutL dfl 0 (cats [b, s]) := ⟨_, rfl⟩
  obtain ⟨Mx, hMx⟩ : ∃ M, M = X.length := ⟨_, rfl⟩
  obtain ⟨My, hMy⟩ : ∃ M, M = Y.length := ⟨_, rfl⟩
  have hcx : (cats [a, s]).length = a.size + s.size := by rw [cat2, List.length_append]; omega
  have hcy : (cats [b, s]).length = b.size + s.size := by rw [cat2, List.length_append]; omega
  have HMX : Hid (Mx ≤ 1500) := Lib.hid (by rw [hMx, hX]; have := cutL_few dfl 0 (cats [a, s]); omega)
  have HMY : Hid (My ≤ 1500) := Lib.hid (by rw [hMy, hY]; have := cutL_few dfl 0 (cats [b, s]); omega)
  have HCX : Hid (∀ (w' : World) (q : Nat), Blk w' q 9 #[.string a, .string s] → Calls Try.prog 13 #[.agg #[.int .i64 32, .int .i64 64, .int .i64 128, .int .i64 7, .int .i64 5], .slice (some ⟨q, 0, none⟩) 2 2] w' fun e w'' => ∃ p c, e = .returned (.slice p Mx c) ∧ Spans w'' w''.heap.size p X ∧ Below w'.heap.size w' w'') := Lib.hid (fun w' q hq => by
    refine (dfl_cut _ 2 2 [a, s] w' rfl (txts_two hq) (by omega) (Nat.le_refl _) (by omega) X hX Mx hMx).mono ?_
    rintro e w'' ⟨p, c, rfl, hown, hb⟩
    exact ⟨p, c, rfl, row_spans (by rw [← hMx]; exact hown), hb⟩)
  have HCY : Hid (∀ (w' : World) (q : Nat), Blk w' q 9 #[.string b, .string s] → Calls Try.prog 13 #[.agg #[.int .i64 32, .int .i64 64, .int .i64 128, .int .i64 7, .int .i64 5], .slice (some ⟨q, 0, none⟩) 2 2] w' fun e w'' => ∃ p c, e = .returned (.slice p My c) ∧ Spans w'' w''.heap.size p Y ∧ Below w'.heap.size w' w'') := Lib.hid (fun w' q hq => by
    refine (dfl_cut _ 2 2 [b, s] w' rfl (txts_two hq) (by omega) (Nat.le_refl _) (by omega) Y hY My hMy).mono ?_
    rintro e w'' ⟨p, c, rfl, hown, hb⟩
    exact ⟨p, c, rfl, row_spans (by rw [← hMy]; exact hown), hb⟩)
  have HXB : Hid (∀ (i : Nat) (x0 x1 : Int), X[i]? = some (x0, x1) → 0 ≤ x0 ∧ x0 < x1 ∧ x1 ≤ 1500) := Lib.hid (fun i x0 x1 hx => by rw [hX] at hx; have := cutL_int hx; omega)
  have HYB : Hid (∀ (i : Nat) (x0 x1 : Int), Y[i]? = some (x0, x1) → 0 ≤ x0 ∧ x0 < x1 ∧ x1 ≤ 1500) := Lib.hid (fun i x0 x1 hx => by rw [hY] at hx; have := cutL_int hx; omega)
  have HME : Hid (∀ (i k : Nat) (x0 x1 y0 y1 : Int), i < Mx → k < My → X[i]? = some (x0, x1) → Y[k]? = some (y0, y1) → (a.size : Int) + (s.size : Int) - x0 = (b.size : Int) + (s.size : Int) - y0 → (a.size : Int) + (s.size : Int) - x0 ≤ (s.size : Int) → Alike X Y i k) := Lib.hid (fun i k x0 x1 y0 y1 _ _ hx hy h1 h2 => by
    have e1 := hx
    have e2 := hy
    rw [hX, cat2] at e1
    rw [hY, cat2] at e2
    have h := cutL_meet dfl a.data.toList b.data.toList s.data.toList i k x0 x1 y0 y1 e1 e2 (by rw [hla, hlb, hls]; exact h1) (by rw [hla, hls]; exact h2)
    rw [← cat2, ← cat2, ← hX, ← hY] at h
    exact alike_of h)
  have HMXX := Lib.hid hMx
  have HMYY := Lib.hid hMy
  have h1 : decide ((600 : Int) < (a.size : Int)) = false := decide_eq_false (by omega)
  have h2 : decide ((600 : Int) < (b.size : Int)) = false := decide_eq_false (by omega)
  have h3 : decide ((900 : Int) < (s.size : Int)) = false := decide_eq_false (by omega)
  clear hX hY hMx hMy hcx hcy hla hlb hls
  go_enter Try.func5, Try.ntmps5
  go_wp2_with fail
  refine (alive14_any _).mono ?_
  rintro e w1 ⟨rfl, hb1⟩
  have HB1 := Lib.hid hb1
  clear hb1
  go_wp2_with fail
  refine (default_any _).mono ?_
  rintro e w2 ⟨rfl, hb2⟩
  obtain ⟨g, hg⟩ : ∃ g, g = w2.heap.size := ⟨_, rfl⟩
  obtain ⟨w3, hw3⟩ : ∃ w3, w3 = w2.alloc (.cells #[.int .i64 32, .int .i64 64, .int .i64 128, .int .i64 7, .int .i64 5] 23) := ⟨_, rfl⟩
  have hbk : RuleAt w3 g dfl := by rw [hw3, hg]; exact dfl_new w2
  have HC : Hid (∀ w', Below w3.heap.size w3 w' → w'.cell? ⟨g, 0, none⟩ = some (.int .i64 32) ∧ w'.cell? ⟨g, 1, none⟩ = some (.int .i64 64) ∧ w'.cell? ⟨g, 2, none⟩ = some (.int .i64 128) ∧ w'.cell? ⟨g, 3, none⟩ = some (.int .i64 7) ∧ w'.cell? ⟨g, 4, none⟩ = some (.int .i64 5)) := Lib.hid (fun w' hw => dfl_cells (hbk.below hw hbk.lt))
  have HB3 : Hid (Below w.heap.size w w3) := Lib.hid (by rw [hw3]; have := HB1.out.trans (hb2.mono HB1.out.size); exact this.alloc this.size _)
  go_upto_region 4 with fail
  rw [← hw3, ← hg]
  clear hb2 hg hw3 hbk
  go_cut [8, 9] from 34 to 43 (fun u v wx => ∃ p c q d, u = .slice p Mx c ∧ v = .slice q My d ∧ Spans wx wx.heap.size p X ∧ Spans wx wx.heap.size q Y ∧ Below w3.heap.size w3 wx)
  case first =>
    refine wp_region_loosely 12 [some 34, some 35, some 36, some 37, some 38, some 39, some 40, some 41, some 42, some 43, some 8, some 9] [some (.agg #[.int .i64 32, .int .i64 64, .int .i64 128, .int .i64 7, .int .i64 5]), some (.string a), some (.string s), none, none, some (.agg #[.int .i64 32, .int .i64 64, .int .i64 128, .int .i64 7, .int .i64 5]), some (.string b), some (.string s), none, none, none, none] (fun _ w' => Below w3.heap.size w3 w') (fun _ w w' => Below w.heap.size w w') (fun L i v w => (i = 3 → (fun _ v w => ∃ q, v = .slice (some ⟨q, 0, none⟩) 2 2 ∧ Blk w q 9 #[.string a, .string s]) L v w) ∧ (i = 4 → (fun _ v w => ∃ p c, v = .slice p Mx c ∧ Spans w w.heap.size p X) L v w) ∧ (i = 8 → (fun _ v w => ∃ q, v = .slice (some ⟨q, 0, none⟩) 2 2 ∧ Blk w q 9 #[.string b, .string s]) L v w) ∧ (i = 9 → (fun _ v w => ∃ p c, v = .slice p My c ∧ Spans w w.heap.size p Y) L v w) ∧ (i = 10 → (fun _ v w => ∃ p c, v = .slice p Mx c ∧ Spans w w.heap.size p X) L v w) ∧ (i = 11 → (fun _ v w => ∃ p c, v = .slice p My c ∧ Spans w w.heap.size p Y) L v w)) (by kernel_rfl) (by kernel_rfl) rfl (by kernel_rfl) (by kernel_rfl) ?hM (fun _ _ _ _ _ h g => h.trans (g.mono h.size)) (below_dn _ 1) ?hops ?hrest
    case hM =>
      intro L o i v w w' hne hLi hLo hcl h hj hg
      exact ⟨(fun e => by
        have hh := h.1 e
        subst e
        exact (match hh with | ⟨q, e, hb⟩ => ⟨q, e, hb.below hg hb.lt⟩)), (fun e => by
        have hh := h.2.1 e
        subst e
        exact (match hh with | ⟨p, c, e, hs⟩ => ⟨p, c, e, (hs.below hg).more hg.size⟩)), (fun e => by
        have hh := h.2.2.1 e
        subst e
        exact (match hh with | ⟨q, e, hb⟩ => ⟨q, e, hb.below hg hb.lt⟩)), (fun e => by
        have hh := h.2.2.2.1 e
        subst e
        exact (match hh with | ⟨p, c, e, hs⟩ => ⟨p, c, e, (hs.below hg).more hg.size⟩)), (fun e => by
        have hh := h.2.2.2.2.1 e
        subst e
        exact (match hh with | ⟨p, c, e, hs⟩ => ⟨p, c, e, (hs.below hg).more hg.size⟩)), (fun e => by
        have hh := h.2.2.2.2.2 e
        subst e
        exact (match hh with | ⟨p, c, e, hs⟩ => ⟨p, c, e, (hs.below hg).more hg.size⟩))⟩
    case hops =>
      intro o ho L f x' w2 hcl hfr hLo hj hw
      rcases (show o = 0 ∨ o = 1 ∨ o = 2 ∨ o = 3 ∨ o = 4 ∨ o = 5 ∨ o = 6 ∨ o = 7 ∨ o = 8 ∨ o = 9 ∨ o = 10 ∨ o = 11 by omega) with rfl | rfl | rfl | rfl | rfl | rfl | rfl | rfl | rfl | rfl | rfl | rfl
      · have e1 : x'.tmps[7]?.getD undef = .pointer (some ⟨g, 0, none⟩) := by rw [hfr 7 (slL_far (by kernel_rfl))]; rfl
        obtain ⟨z0, z1, z2, z3, z4⟩ := HC.out w2 hj
        clear hw hfr hcl hLo
        refine wpOp_on (v := .agg #[.int .i64 32, .int .i64 64, .int .i64 128, .int .i64 7, .int .i64 5]) (w' := w2) rfl (wanted_none rfl) ?_ ⟨_, rfl, (Below.refl _ _), .known rfl ⟨(fun e => absurd e (by decide)), (fun e => absurd e (by decide)), (fun e => absurd e (by decide)), (fun e => absurd e (by decide)), (fun e => absurd e (by decide)), (fun e => absurd e (by decide))⟩⟩
        go_simp
      · have e1 : x'.tmps[0]?.getD undef = .string a := by rw [hfr 0 (slL_far (by kernel_rfl))]; rfl
        clear hw hfr hcl hLo
        refine wpOp_on (v := .string a) (w' := w2) rfl (wanted_none rfl) ?_ ⟨_, rfl, (Below.refl _ _), .known rfl ⟨(fun e => absurd e (by decide)), (fun e => absurd e (by decide)), (fun e => absurd e (by decide)), (fun e => absurd e (by decide)), (fun e => absurd e (by decide)), (fun e => absurd e (by decide))⟩⟩
        go_simp
      · have e1 : x'.tmps[2]?.getD undef = .string s := by rw [hfr 2 (slL_far (by kernel_rfl))]; rfl
        clear hw hfr hcl hLo
        refine wpOp_on (v := .string s) (w' := w2) rfl (wanted_none rfl) ?_ ⟨_, rfl, (Below.refl _ _), .known rfl ⟨(fun e => absurd e (by decide)), (fun e => absurd e (by decide)), (fun e => absurd e (by decide)), (fun e => absurd e (by decide)), (fun e => absurd e (by decide)), (fun e => absurd e (by decide))⟩⟩
        go_simp
      · have e1 : x'.tmps[35]?.getD undef = .string a := (hw 1 (of_decide_eq_true (by kernel_rfl))).is rfl rfl
        have e2 : x'.tmps[36]?.getD undef = .string s := (hw 2 (of_decide_eq_true (by kernel_rfl))).is rfl rfl
        clear hw hfr hcl hLo
        refine wpOp_on (v := .slice (some ⟨w2.heap.size, 0, none⟩) 2 2) (w' := (w2.alloc (.cells #[.string a, .string s] 9))) rfl (wanted_none rfl) ?_ ⟨_, rfl, ((Below.refl _ _).alloc (Nat.le_refl _) _), .loose rfl ⟨(fun _ => ⟨_, rfl, Blk.new w2 _ _⟩), (fun e => absurd e (by decide)), (fun e => absurd e (by decide)), (fun e => absurd e (by decide)), (fun e => absurd e (by decide)), (fun e => absurd e (by decide))⟩⟩
        go_simp
      · have e1 : x'.tmps[34]?.getD undef = .agg #[.int .i64 32, .int .i64 64, .int .i64 128, .int .i64 7, .int .i64 5] := (hw 0 (of_decide_eq_true (by kernel_rfl))).is rfl rfl
        have e2 := (hw 3 (of_decide_eq_true (by kernel_rfl)))
        obtain ⟨q, ev, hbk⟩ := e2.2.1.2.1 rfl
        have e2' : x'.tmps[37]?.getD undef = .slice (some ⟨q, 0, none⟩) 2 2 := (e2.2.2 37 rfl).trans ev
        clear e2
        clear hw hfr hcl hLo
        refine wpOp_enter (f := 13) (args := #[.agg #[.int .i64 32, .int .i64 64, .int .i64 128, .int .i64 7, .int .i64 5], .slice (some ⟨q, 0, none⟩) 2 2]) rfl (wanted_none rfl) (by go_simp) ((HCX.out w2 q hbk).mono ?_)
        rintro e wy ⟨p, c, rfl, hs, hb⟩
        exact ⟨_, rfl, _, rfl, hb, .loose rfl ⟨(fun e => absurd e (by decide)), (fun _ => ⟨p, c, rfl, hs⟩), (fun e => absurd e (by decide)), (fun e => absurd e (by decide)), (fun e => absurd e (by decide)), (fun e => absurd e (by decide))⟩⟩
      · have e1 : x'.tmps[7]?.getD undef = .pointer (some ⟨g, 0, none⟩) := by rw [hfr 7 (slL_far (by kernel_rfl))]; rfl
        obtain ⟨z0, z1, z2, z3, z4⟩ := HC.out w2 hj
        clear hw hfr hcl hLo
        refine wpOp_on (v := .agg #[.int .i64 32, .int .i64 64, .int .i64 128, .int .i64 7, .int .i64 5]) (w' := w2) rfl (wanted_none rfl) ?_ ⟨_, rfl, (Below.refl _ _), .known rfl ⟨(fun e => absurd e (by decide)), (fun e => absurd e (by decide)), (fun e => absurd e (by decide)), (fun e => absurd e (by decide)), (fun e => absurd e (by decide)), (fun e => absurd e (by decide))⟩⟩
        go_simp
      · have e1 : x'.tmps[1]?.getD undef = .string b := by rw [hfr 1 (slL_far (by kernel_rfl))]; rfl
        clear hw hfr hcl hLo
        refine wpOp_on (v := .string b) (w' := w2) rfl (wanted_none rfl) ?_ ⟨_, rfl, (Below.refl _ _), .known rfl ⟨(fun e => absurd e (by decide)), (fun e => absurd e (by decide)), (fun e => absurd e (by decide)), (fun e => absurd e (by decide)), (fun e => absurd e (by decide)), (fun e => absurd e (by decide))⟩⟩
        go_simp
      · have e1 : x'.tmps[2]?.getD undef = .string s := by rw [hfr 2 (slL_far (by kernel_rfl))]; rfl
        clear hw hfr hcl hLo
        refine wpOp_on (v := .string s) (w' := w2) rfl (wanted_none rfl) ?_ ⟨_, rfl, (Below.refl _ _), .known rfl ⟨(fun e => absurd e (by decide)), (fun e => absurd e (by decide)), (fun e => absurd e (by decide)), (fun e => absurd e (by decide)), (fun e => absurd e (by decide)), (fun e => absurd e (by decide))⟩⟩
        go_simp
      · have e1 : x'.tmps[40]?.getD undef = .string b := (hw 6 (of_decide_eq_true (by kernel_rfl))).is rfl rfl
        have e2 : x'.tmps[41]?.getD undef = .string s := (hw 7 (of_decide_eq_true (by kernel_rfl))).is rfl rfl
        clear hw hfr hcl hLo
        refine wpOp_on (v := .slice (some ⟨w2.heap.size, 0, none⟩) 2 2) (w' := (w2.alloc (.cells #[.string b, .string s] 9))) rfl (wanted_none rfl) ?_ ⟨_, rfl, ((Below.refl _ _).alloc (Nat.le_refl _) _), .loose rfl ⟨(fun e => absurd e (by decide)), (fun e => absurd e (by decide)), (fun _ => ⟨_, rfl, Blk.new w2 _ _⟩), (fun e => absurd e (by decide)), (fun e => absurd e (by decide)), (fun e => absurd e (by decide))⟩⟩
        go_simp
      · have e1 : x'.tmps[39]?.getD undef = .agg #[.int .i64 32, .int .i64 64, .int .i64 128, .int .i64 7, .int .i64 5] := (hw 5 (of_decide_eq_true (by kernel_rfl))).is rfl rfl
        have e2 := (hw 8 (of_decide_eq_true (by kernel_rfl)))
        obtain ⟨q, ev, hbk⟩ := e2.2.1.2.2.2.1 rfl
        have e2' : x'.tmps[42]?.getD undef = .slice (some ⟨q, 0, none⟩) 2 2 := (e2.2.2 42 rfl).trans ev
        clear e2
        clear hw hfr hcl hLo
        refine wpOp_enter (f := 13) (args := #[.agg #[.int .i64 32, .int .i64 64, .int .i64 128, .int .i64 7, .int .i64 5], .slice (some ⟨q, 0, none⟩) 2 2]) rfl (wanted_none rfl) (by go_simp) ((HCY.out w2 q hbk).mono ?_)
        rintro e wy ⟨p, c, rfl, hs, hb⟩
        exact ⟨_, rfl, _, rfl, hb, .loose rfl ⟨(fun e => absurd e (by decide)), (fun e => absurd e (by decide)), (fun e => absurd e (by decide)), (fun _ => ⟨p, c, rfl, hs⟩), (fun e => absurd e (by decide)), (fun e => absurd e (by decide))⟩⟩
      · have e1 := (hw 4 (of_decide_eq_true (by kernel_rfl)))
        obtain ⟨p, c, ev, hs⟩ := e1.2.1.2.2.1 rfl
        have e1' : x'.tmps[38]?.getD undef = .slice p Mx c := (e1.2.2 38 rfl).trans ev
        clear e1
        clear hw hfr hcl hLo
        refine wpOp_on (v := .slice p Mx c) (w' := w2) rfl (wanted_none rfl) ?_ ⟨_, rfl, (Below.refl _ _), .loose rfl ⟨(fun e => absurd e (by decide)), (fun e => absurd e (by decide)), (fun e => absurd e (by decide)), (fun e => absurd e (by decide)), (fun _ => ⟨p, c, rfl, hs⟩), (fun e => absurd e (by decide))⟩⟩
        go_simp
      · have e1 := (hw 9 (of_decide_eq_true (by kernel_rfl)))
        obtain ⟨p, c, ev, hs⟩ := e1.2.1.2.2.2.2.1 rfl
        have e1' : x'.tmps[43]?.getD undef = .slice p My c := (e1.2.2 43 rfl).trans ev
        clear e1
        clear hw hfr hcl hLo
        refine wpOp_on (v := .slice p My c) (w' := w2) rfl (wanted_none rfl) ?_ ⟨_, rfl, (Below.refl _ _), .loose rfl ⟨(fun e => absurd e (by decide)), (fun e => absurd e (by decide)), (fun e => absurd e (by decide)), (fun e => absurd e (by decide)), (fun e => absurd e (by decide)), (fun _ => ⟨p, c, rfl, hs⟩)⟩⟩
        go_simp
    case hrest =>
      intro L f wz hL hj hF
      obtain ⟨p8, k8, ev8, hs8⟩ := (hF 10 (by omega)).2.2.2.2.2.1 rfl
      obtain ⟨p9, k9, ev9, hs9⟩ := (hF 11 (by omega)).2.2.2.2.2.2 rfl
      clear hF hL
      simp only [putSlots, slL, List.range, List.range.loop, List.foldl, List.getElem?_cons_zero, List.getElem?_cons_succ, Option.getD_some, List.setIfInBounds_toArray, List.set_cons_succ, List.set_cons_zero, ev8, ev9]
      go_wp2_with fail
      go_meet
      exact ⟨p8, k8, p9, k9, rfl, rfl, hs8, hs9, hj⟩
  case rest =>
  obtain ⟨wm, rfl⟩ : ∃ wm, wm = wc := ⟨_, rfl⟩
  obtain ⟨p, cp, q, cq, rfl, rfl, hsx, hsy, hbc⟩ := hcut
  have HSX := Lib.hid hsx
  have HSY := Lib.hid hsy
  have HBC := Lib.hid (HB3.out.trans (hbc.mono HB3.out.size))
  clear hsx hsy hbc
  have hMx15 := HMX.out
  have hMy15 := HMY.out
  have HRX : Hid (∀ wx, Below wm.heap.size wm wx → ∀ i, i < Mx → ∃ x0 x1 bb off, X[i]? = some (x0, x1) ∧ p = some ⟨bb, off, none⟩ ∧ wx.cell? ⟨bb, off + i * 2, none⟩ = some (.int .i64 x0) ∧ wx.cell? ⟨bb, off + i * 2 + 1, none⟩ = some (.int .i64 x1)) := Lib.hid (fun wx hx i hi => by
    obtain ⟨x0, x1, h⟩ := spans_get HMXX.out.symm hi
    obtain ⟨bb, off, hA, hbB, hcell⟩ := HSX.out (by rw [← HMXX.out]; omega)
    obtain ⟨t0, t1⟩ := hcell i _ h
    exact ⟨x0, x1, bb, off, h, hA, (hx.cell (p := ⟨bb, off + i * 2, none⟩) hbB).trans t0, (hx.cell (p := ⟨bb, off + i * 2 + 1, none⟩) hbB).trans t1⟩)
  have HRY : Hid (∀ wx, Below wm.heap.size wm wx → ∀ i, i < My → ∃ x0 x1 bb off, Y[i]? = some (x0, x1) ∧ q = some ⟨bb, off, none⟩ ∧ wx.cell? ⟨bb, off + i * 2, none⟩ = some (.int .i64 x0) ∧ wx.cell? ⟨bb, off + i * 2 + 1, none⟩ = some (.int .i64 x1)) := Lib.hid (fun wx hx i hi => by
    obtain ⟨x0, x1, h⟩ := spans_get HMYY.out.symm hi
    obtain ⟨bb, off, hA, hbB, hcell⟩ := HSY.out (by rw [← HMYY.out]; omega)
    obtain ⟨t0, t1⟩ := hcell i _ h
    exact ⟨x0, x1, bb, off, h, hA, (hx.cell (p := ⟨bb, off + i * 2, none⟩) hbB).trans t0, (hx.cell (p := ⟨bb, off + i * 2 + 1, none⟩) hbB).trans t1⟩)
  have hsz1 : IntKind.i64.wrap ((a.size : Int) + (s.size : Int)) = (a.size : Int) + (s.size : Int) := by rw [IntKind.wrap_i64]; omega
  have hsz2 : IntKind.i64.wrap ((b.size : Int) + (s.size : Int)) = (b.size : Int) + (s.size : Int) := by rw [IntKind.wrap_i64]; omega
  go_upto_block 0 with fail
  go_cut [10, 11] from 44 to 91 (fun u v wx => ∃ i k : Nat, i ≤ Mx ∧ k ≤ My ∧ u = .int .i64 (i : Int) ∧ v = .int .i64 (k : Int) ∧ (i = Mx ∨ k = My ∨ (i < Mx ∧ k < My ∧ Alike X Y i k)) ∧ Below wm.heap.size wm wx)
  case first =>
    go_wp2_with fail
    go_loopw [10, 11] (fun u v wr => ∃ i k : Nat, i ≤ Mx ∧ k ≤ My ∧ u = .int .i64 (i : Int) ∧ v = .int .i64 (k : Int) ∧ Below wm.heap.size wm wr) (fun u v _ => (Mx - (intOf u).toNat) + (My - (intOf v).toNat))
    case atStart => exact ⟨0, 0, Nat.zero_le _, Nat.zero_le _, rfl, rfl, Below.refl _ _⟩
    case round =>
      obtain ⟨i, k, hi, hk, rfl, rfl, hbr⟩ := hrel
      have HBR := Lib.hid hbr
      clear hbr
      by_cases hil : i < Mx
      · have hil' : decide ((i : Int) < (Mx : Int)) = true := decide_eq_true (by omega)
        by_cases hkl : k < My
        · have hkl' : decide ((k : Int) < (My : Int)) = true := decide_eq_true (by omega)
          have hilI : (i : Int) < (Mx : Int) := by omega
          have hklI : (k : Int) < (My : Int) := by omega
          obtain ⟨x0, x1, bx, ox, hxi, hp, e0, e1⟩ := HRX.out wr HBR.out i hil
          obtain ⟨y0, y1, by', oy, hyk, hq, d0, d1⟩ := HRY.out wr HBR.out k hkl
          obtain ⟨r0, r1, r2⟩ := HXB.out i x0 x1 hxi
          obtain ⟨t0, t1, t2⟩ := HYB.out k y0 y1 hyk
          have HML := Lib.hid (HME.out i k x0 x1 y0 y1 hil hkl hxi hyk)
          obtain ⟨P, hP⟩ : ∃ P, P = (a.size : Int) + (s.size : Int) - x0 := ⟨_, rfl⟩
          obtain ⟨Q, hQ⟩ : ∃ Q, Q = (b.size : Int) + (s.size : Int) - y0 := ⟨_, rfl⟩
          have hwP : IntKind.i64.wrap ((a.size : Int) + (s.size : Int) - x0) = P := by rw [IntKind.wrap_i64]; omega
          have hwQ : IntKind.i64.wrap ((b.size : Int) + (s.size : Int) - y0) = Q := by rw [IntKind.wrap_i64]; omega
          rw [← hP, ← hQ] at HML
          clear hxi hyk hP hQ hil hkl
          subst hp hq
          by_cases hpq : P = Q
          · subst hpq
            by_cases hps : P ≤ (s.size : Int)
            · have HA := Lib.hid (HML.out rfl hps)
              have hps' : decide (P ≤ (s.size : Int)) = true := decide_eq_true hps
              go_wp2_with fail
              go_quiet (fail)
              go_wp2_with fail
              go_meet
              exact ⟨i, k, hi, hk, rfl, rfl, .inr (.inr ⟨by omega, by omega, HA.out⟩), HBR.out.trans (below_dn _ _)⟩
            · have hps' : decide (P ≤ (s.size : Int)) = false := decide_eq_false hps
              have hgt : ¬ P < P := by omega
              go_wp2_with fail
              go_quiet (fail)
              go_wp2_with fail
              go_roundw
              case rel => exact ⟨i, k + 1, hi, by omega, rfl, by go_num, HBR.out.trans (below_dn _ _)⟩
              case measure => simp [intOf]; omega
          · have hpq' : (P == Q) = false := by simp [hpq]
            by_cases hgt : Q < P
            · have hgt' : decide (Q < P) = true := decide_eq_true hgt
              go_wp2_with fail
              go_quiet (fail)
              go_wp2_with fail
              go_roundw
              case rel => exact ⟨i + 1, k, by omega, hk, by go_num, rfl, HBR.out.trans (below_dn _ _)⟩
              case measure => simp [intOf]; omega
            · have hgt' : decide (Q < P) = false := decide_eq_false hgt
              go_wp2_with fail
              go_quiet (fail)
              go_wp2_with fail
              go_roundw
              case rel => exact ⟨i, k + 1, hi, by omega, rfl, by go_num, HBR.out.trans (below_dn _ _)⟩
              case measure => simp [intOf]; omega
        · have hkl' : decide ((k : Int) < (My : Int)) = false := decide_eq_false (by omega)
          go_wp2_with fail
          go_meet
          exact ⟨i, k, hi, hk, rfl, rfl, .inr (.inl (by omega)), HBR.out⟩
      · have hil' : decide ((i : Int) < (Mx : Int)) = false := decide_eq_false (by omega)
        go_wp2_with fail
        go_meet
        exact ⟨i, k, hi, hk, rfl, rfl, .inl (by omega), HBR.out⟩
  case rest =>
  obtain ⟨i, k, hi, hk, rfl, rfl, hor, hbd⟩ := hcut
  have HOR := Lib.hid hor
  have HBD := Lib.hid hbd
  clear hor hbd
  by_cases hie : i = Mx
  · have hie' : ((i : Int) == (Mx : Int)) = true := by rw [beq_iff_eq]; omega
    clear hie
    go_wp2_with fail
    go_ret
    exact ⟨rfl, HBC.out.trans (HBD.out.mono HBC.out.size)⟩
  have hie' : ((i : Int) == (Mx : Int)) = false := by rw [beq_eq_false_iff_ne]; omega
  by_cases hke : k = My
  · have hke' : ((k : Int) == (My : Int)) = true := by rw [beq_iff_eq]; omega
    clear hke hie
    go_wp2_with fail
    go_ret
    exact ⟨rfl, HBC.out.trans (HBD.out.mono HBC.out.size)⟩
  have hke' : ((k : Int) == (My : Int)) = false := by rw [beq_eq_false_iff_ne]; omega
  have HAL : Hid (i < Mx ∧ k < My ∧ Alike X Y i k) := Lib.hid (by
    rcases HOR.out with h | h | h
    · exact absurd h hie
    · exact absurd h hke
    · exact h)
  have hlens : (Mx : Int) - (i : Int) = (My : Int) - (k : Int) := by have h := HAL.out.2.2.1; rw [← HMXX.out, ← HMYY.out] at h; omega
  obtain ⟨D, hD⟩ : ∃ D, D = (Mx : Int) - (i : Int) := ⟨_, rfl⟩
  have hw1 : IntKind.i64.wrap ((Mx : Int) - (i : Int)) = D := by rw [IntKind.wrap_i64]; omega
  have hw2 : IntKind.i64.wrap ((My : Int) - (k : Int)) = D := by rw [IntKind.wrap_i64]; omega
  clear hlens hD HOR hie hke
  go_wp2_with fail
  go_loopw [14] (fun u wr => ∃ j : Nat, i + j ≤ Mx ∧ u = .int .i64 (j : Int) ∧ Below wm.heap.size wm wr) (fun u _ => Mx - (intOf u).toNat)
  case atStart => exact ⟨0, by omega, rfl, HBD.out⟩
  case round =>
    obtain ⟨j, hj, rfl, hbr⟩ := hrel
    have HBR := Lib.hid hbr
    clear hbr
    have hij : IntKind.i64.wrap ((i : Int) + (j : Int)) = ((i + j : Nat) : Int) := by rw [IntKind.wrap_i64]; omega
    have hkj : IntKind.i64.wrap ((k : Int) + (j : Int)) = ((k + j : Nat) : Int) := by rw [IntKind.wrap_i64]; omega
    obtain ⟨I, hI⟩ : ∃ I, I = i + j := ⟨_, rfl⟩
    obtain ⟨J', hJ⟩ : ∃ J, J = k + j := ⟨_, rfl⟩
    rw [← hI] at hij
    rw [← hJ] at hkj
    by_cases hlt : I < Mx
    · have hltJ : J' < My := by
        have h := HAL.out.2.2.1
        have h4 := HAL.out
        rw [← HMXX.out, ← HMYY.out] at h
        omega
      have hltI : (I : Int) < (Mx : Int) := by omega
      have hltK : (J' : Int) < (My : Int) := by omega
      obtain ⟨x0, x1, bx, ox, hxi, hp, e0, e1⟩ := HRX.out wr HBR.out I hlt
      obtain ⟨y0, y1, by', oy, hyk, hq, d0, d1⟩ := HRY.out wr HBR.out J' hltJ
      obtain ⟨r0, r1, r2⟩ := HXB.out I x0 x1 hxi
      obtain ⟨t0, t1, t2⟩ := HYB.out J' y0 y1 hyk
      have heq := HAL.out.2.2.2 j x0 x1 y0 y1 (by rw [← hI]; exact hxi) (by rw [← hJ]; exact hyk)
      obtain ⟨E, hE⟩ : ∃ E, E = x1 - x0 := ⟨_, rfl⟩
      have hv1 : IntKind.i64.wrap (x1 - x0) = E := by rw [IntKind.wrap_i64]; omega
      have hv2 : IntKind.i64.wrap (y1 - y0) = E := by rw [IntKind.wrap_i64]; omega
      have HIJ := Lib.hid hI
      clear hxi hyk heq hE hI hJ hltJ
      subst hp hq
      go_wp2_with fail
      go_quiet (fail)
      go_wp2_with fail
      go_roundw
      case rel => exact ⟨j + 1, by have := HIJ.out; omega, by go_num, HBR.out.trans (below_dn _ _)⟩
      case measure => have := HIJ.out; simp [intOf]; omega
    · have hltI : ¬ (I : Int) < (Mx : Int) := by omega
      go_wp2_with fail
      go_ret
      exact ⟨rfl, HBC.out.trans (HBR.out.mono HBC.out.size)⟩
set_option maxRecDepth 100000 in
set_option maxHeartbeats 8000000 in
theorem cmeets_out (a b s : ByteArray) (w : World) (ho : 600 < a.size ∨ 600 < b.size ∨ 900 < s.size) :
    Calls Try.prog 5 #[.string a, .string b, .string s] w fun e w' => e = .returned (.bool true) ∧ Below w.heap.size w w' := by
  by_cases h1 : 600 < a.size
  · have h1' : (600 : Int) < (a.size : Int) := by omega
    clear ho
    go_enter Try.func5, Try.ntmps5
    go_wp2_with fail
    refine (alive14_any _).mono ?_
    rintro e w1 ⟨rfl, hb1⟩
    go_wp2_with fail
    go_ret
    exact ⟨rfl, hb1⟩
  have h1' : decide ((600 : Int) < (a.size : Int)) = false := decide_eq_false (by omega)
  by_cases h2 : 600 < b.size
  · have h2' : (600 : Int) < (b.size : Int) := by omega
    clear ho h1
    go_enter Try.func5, Try.ntmps5
    go_wp2_with fail
    refine (alive14_any _).mono ?_
    rintro e w1 ⟨rfl, hb1⟩
    go_wp2_with fail
    go_ret
    exact ⟨rfl, hb1⟩
  have h2' : decide ((600 : Int) < (b.size : Int)) = false := decide_eq_false (by omega)
  have h3 : (900 : Int) < (s.size : Int) := by omega
  clear ho h1 h2
  go_enter Try.func5, Try.ntmps5
  go_wp2_with fail
  refine (alive14_any _).mono ?_
  rintro e w1 ⟨rfl, hb1⟩
  go_wp2_with fail
  go_ret
  exact ⟨rfl, hb1⟩
theorem cmeets_any (a b s : ByteArray) (w : World) (_ha : a.size ≤ 140737488351232) (_hb : b.size ≤ 140737488351232) (_hs : s.size ≤ 140737488351232) :
    Calls Try.prog 5 #[.string a, .string b, .string s] w fun e w' => e = .returned (.bool true) ∧ Below w.heap.size w w' := by
  by_cases h : 600 < a.size ∨ 600 < b.size ∨ 900 < s.size
  · exact cmeets_out a b s w h
  · exact cmeets_in a b s w (by omega) (by omega) (by omega)
end Go.Proofs.Ytnmdpbnddbccmaa
