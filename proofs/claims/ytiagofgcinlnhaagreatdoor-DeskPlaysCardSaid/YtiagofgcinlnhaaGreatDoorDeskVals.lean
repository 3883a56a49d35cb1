/-
  A region that draws its order over operations of known value, calls that make memory among them; then sinks. No statement is proved here.
-/
import Derived.Test.YtiagofgcinlnhaaGreatDoorDeskCaps
import Derived.Test.YtiagofgcinlnhaaGreatDoorRefRoom
namespace Go.Proofs.YtiagofgcinlnhaaGreatDoor
open Go.RowKit
structure DocS where
  home : List ByteArray
  on : List ByteArray
  used : List Int
  was : List Int
def txtV (l : List ByteArray) : List Value := l.map Value.string
def intV (l : List Int) : List Value := l.map (Value.int .i64)
theorem txtV_one (l : List ByteArray) : ∀ u ∈ txtV l, u.oneCell' = true := by
  intro u hu
  obtain ⟨x, _, rfl⟩ := List.mem_map.1 hu
  rfl
theorem intV_one (l : List Int) : ∀ u ∈ intV l, u.oneCell' = true := by
  intro u hu
  obtain ⟨x, _, rfl⟩ := List.mem_map.1 hu
  rfl
structure DocIs (w : World) (B x : Nat) (vh vo vu vw : Value) (s : DocS) : Prop where
  blk : Blk w x 41 #[vh, vo, vu, vw]
  low : B ≤ x
  home : w.ownsRow B 9 1 vh s.home.length (txtV s.home)
  on : w.ownsRow B 9 1 vo s.on.length (txtV s.on)
  used : w.ownsRow B 3 1 vu s.used.length (intV s.used)
  was : w.ownsRow B 3 1 vw s.was.length (intV s.was)
  apart : ∀ b, vh.ownBlock = some b → vo.ownBlock ≠ some b
  apart2 : ∀ b, vu.ownBlock = some b → vw.ownBlock ≠ some b
def DocAt (w : World) (B x : Nat) (s : DocS) : Prop := ∃ vh vo vu vw, DocIs w B x vh vo vu vw s
theorem DocIs.below {w w' : World} {B x : Nat} {vh vo vu vw : Value} {s : DocS} (h : DocIs w B x vh vo vu vw s) (hb : Below w.heap.size w w') : DocIs w' B x vh vo vu vw s :=
  ⟨h.blk.below hb h.blk.lt, h.low, row_below h.home hb, row_below h.on hb, row_below h.used hb, row_below h.was hb, h.apart, h.apart2⟩
theorem DocAt.below {w w' : World} {B x : Nat} {s : DocS} (h : DocAt w B x s) (hb : Below w.heap.size w w') : DocAt w' B x s := by
  obtain ⟨vh, vo, vu, vw, h⟩ := h
  exact ⟨vh, vo, vu, vw, h.below hb⟩
theorem str_info : (Tryz.prog.info? 9).map (fun i => (i.zero, i.size, i.bytes)) = some (some (.string .empty), 1, 16) := by kernel_rfl
set_option maxRecDepth 100000 in
set_option maxHeartbeats 8000000 in
theorem dcopy_any {B x : Nat} {s : DocS} {w : World} (h : DocAt w B x s) (h1 : s.home.length ≤ 100000 ∧ s.on.length ≤ 100000 ∧ s.used.length ≤ 100000 ∧ s.was.length ≤ 100000) :
    Calls Tryz.prog 21 #[.pointer (some ⟨x, 0, none⟩)] w fun e w' => ∃ y, e = .returned (.pointer (some ⟨y, 0, none⟩)) ∧ DocAt w' w.heap.size y s ∧ Below w.heap.size w w' := by
  obtain ⟨vh, vo, vu, vw, h⟩ := h
  obtain ⟨i0, hi, hz0, hz1, hz2⟩ := info_parts str_info
  obtain ⟨j0, hj, hy0, hy1, hy2⟩ := info_parts hints_info
  have HI := Lib.hid hi
  have HJ0 := Lib.hid hj
  obtain ⟨nh, hnh⟩ : ∃ n, n = s.home.length := ⟨_, rfl⟩
  obtain ⟨no, hno⟩ : ∃ n, n = s.on.length := ⟨_, rfl⟩
  obtain ⟨nu, hnu⟩ : ∃ n, n = s.used.length := ⟨_, rfl⟩
  obtain ⟨nw, hnw⟩ : ∃ n, n = s.was.length := ⟨_, rfl⟩
  rw [← hnh, ← hno, ← hnu, ← hnw] at h1
  have HH := Lib.hid h
  have HL := Lib.hid h1
  have HNH := Lib.hid hnh
  have HNO := Lib.hid hno
  have HNU := Lib.hid hnu
  have HNW := Lib.hid hnw
  have HC : Hid (∀ w', Below w.heap.size w w' → w'.cell? ⟨x, 0, none⟩ = some vh ∧ w'.cell? ⟨x, 1, none⟩ = some vo ∧ w'.cell? ⟨x, 2, none⟩ = some vu ∧ w'.cell? ⟨x, 3, none⟩ = some vw) := Lib.hid (fun w' hb => by
    have k := h.blk.below hb h.blk.lt
    exact ⟨k.cell 0, k.cell 1, k.cell 2, k.cell 3⟩)
  clear h hi hj h1 hnh hno hnu hnw
  obtain ⟨ph, ch, rfl, -⟩ := row_slice' HH.out.home
  obtain ⟨po, co, rfl, -⟩ := row_slice' HH.out.on
  obtain ⟨pu, cu, rfl, -⟩ := row_slice' HH.out.used
  obtain ⟨pw, cw, rfl, -⟩ := row_slice' HH.out.was
  rw [← HNH.out, ← HNO.out, ← HNU.out, ← HNW.out] at HC
  go_enter Tryz.func21, Tryz.ntmps21
  go_upto_region 1 with fail
  refine wp_region_fresh (W := w) 3 20 22 3 (fun | 0 => .pointer (some ⟨x, 0, none⟩) | 1 => .pointer (some ⟨x, 0, none⟩) | 2 => .pointer (some ⟨x, 0, none⟩) | 3 => .slice ph nh ch | 5 => .pointer (some ⟨x, 0, none⟩) | 6 => .pointer (some ⟨x, 0, none⟩) | 7 => .pointer (some ⟨x, 1, none⟩) | 8 => .slice po no co | 10 => .pointer (some ⟨x, 0, none⟩) | 11 => .pointer (some ⟨x, 0, none⟩) | 12 => .pointer (some ⟨x, 2, none⟩) | 13 => .slice pu nu cu | 15 => .pointer (some ⟨x, 0, none⟩) | 16 => .pointer (some ⟨x, 0, none⟩) | 17 => .pointer (some ⟨x, 3, none⟩) | 18 => .slice pw nw cw | _ => undef) (fun | 4 => some ⟨9, 1, nh, txtV s.home⟩ | 9 => some ⟨9, 1, no, txtV s.on⟩ | 14 => some ⟨3, 1, nu, intV s.used⟩ | 19 => some ⟨3, 1, nw, intV s.was⟩ | _ => none) (by kernel_rfl) (by kernel_rfl) rfl (by omega) (by kernel_rfl) rfl (by simp) ?hval ?hrow ?hrest
  case hval =>
    intro i hi hr z w' hB hF hv
    obtain ⟨k0, k1, k2, k3⟩ := HC.out w' hB
    rcases (show i = 0 ∨ i = 1 ∨ i = 2 ∨ i = 3 ∨ i = 4 ∨ i = 5 ∨ i = 6 ∨ i = 7 ∨ i = 8 ∨ i = 9 ∨ i = 10 ∨ i = 11 ∨ i = 12 ∨ i = 13 ∨ i = 14 ∨ i = 15 ∨ i = 16 ∨ i = 17 ∨ i = 18 ∨ i = 19 by omega) with rfl | rfl | rfl | rfl | rfl | rfl | rfl | rfl | rfl | rfl | rfl | rfl | rfl | rfl | rfl | rfl | rfl | rfl | rfl | rfl
    · have t0 : z.tmps[0]?.getD undef = .pointer (some ⟨x, 0, none⟩) := by rw [hF.2.2 0 (by omega)]; rfl
      clear hv hF
      refine wpOp_value (v := .pointer (some ⟨x, 0, none⟩)) (w' := w') rfl rfl ?_ ⟨rfl, rfl⟩
      go_simp
    · have t0 : z.tmps[3]?.getD undef = .pointer (some ⟨x, 0, none⟩) := hv 0 (of_decide_eq_true (by kernel_rfl)) (by omega) rfl
      clear hv hF
      refine wpOp_value (v := .pointer (some ⟨x, 0, none⟩)) (w' := w') rfl rfl ?_ ⟨rfl, rfl⟩
      go_simp
    · have t0 : z.tmps[4]?.getD undef = .pointer (some ⟨x, 0, none⟩) := hv 1 (of_decide_eq_true (by kernel_rfl)) (by omega) rfl
      clear hv hF
      refine wpOp_value (v := .pointer (some ⟨x, 0, none⟩)) (w' := w') rfl rfl ?_ ⟨rfl, rfl⟩
      go_simp
    · have t0 : z.tmps[5]?.getD undef = .pointer (some ⟨x, 0, none⟩) := hv 2 (of_decide_eq_true (by kernel_rfl)) (by omega) rfl
      clear hv hF
      refine wpOp_value (v := .slice ph nh ch) (w' := w') rfl rfl ?_ ⟨rfl, rfl⟩
      go_simp
    · cases hr
    · have t0 : z.tmps[0]?.getD undef = .pointer (some ⟨x, 0, none⟩) := by rw [hF.2.2 0 (by omega)]; rfl
      clear hv hF
      refine wpOp_value (v := .pointer (some ⟨x, 0, none⟩)) (w' := w') rfl rfl ?_ ⟨rfl, rfl⟩
      go_simp
    · have t0 : z.tmps[8]?.getD undef = .pointer (some ⟨x, 0, none⟩) := hv 5 (of_decide_eq_true (by kernel_rfl)) (by omega) rfl
      clear hv hF
      refine wpOp_value (v := .pointer (some ⟨x, 0, none⟩)) (w' := w') rfl rfl ?_ ⟨rfl, rfl⟩
      go_simp
    · have t0 : z.tmps[9]?.getD undef = .pointer (some ⟨x, 0, none⟩) := hv 6 (of_decide_eq_true (by kernel_rfl)) (by omega) rfl
      clear hv hF
      refine wpOp_value (v := .pointer (some ⟨x, 1, none⟩)) (w' := w') rfl rfl ?_ ⟨rfl, rfl⟩
      go_simp
    · have t0 : z.tmps[10]?.getD undef = .pointer (some ⟨x, 1, none⟩) := hv 7 (of_decide_eq_true (by kernel_rfl)) (by omega) rfl
      clear hv hF
      refine wpOp_value (v := .slice po no co) (w' := w') rfl rfl ?_ ⟨rfl, rfl⟩
      go_simp
    · cases hr
    · have t0 : z.tmps[0]?.getD undef = .pointer (some ⟨x, 0, none⟩) := by rw [hF.2.2 0 (by omega)]; rfl
      clear hv hF
      refine wpOp_value (v := .pointer (some ⟨x, 0, none⟩)) (w' := w') rfl rfl ?_ ⟨rfl, rfl⟩
      go_simp
    · have t0 : z.tmps[13]?.getD undef = .pointer (some ⟨x, 0, none⟩) := hv 10 (of_decide_eq_true (by kernel_rfl)) (by omega) rfl
      clear hv hF
      refine wpOp_value (v := .pointer (some ⟨x, 0, none⟩)) (w' := w') rfl rfl ?_ ⟨rfl, rfl⟩
      go_simp
    · have t0 : z.tmps[14]?.getD undef = .pointer (some ⟨x, 0, none⟩) := hv 11 (of_decide_eq_true (by kernel_rfl)) (by omega) rfl
      clear hv hF
      refine wpOp_value (v := .pointer (some ⟨x, 2, none⟩)) (w' := w') rfl rfl ?_ ⟨rfl, rfl⟩
      go_simp
    · have t0 : z.tmps[15]?.getD undef = .pointer (some ⟨x, 2, none⟩) := hv 12 (of_decide_eq_true (by kernel_rfl)) (by omega) rfl
      clear hv hF
      refine wpOp_value (v := .slice pu nu cu) (w' := w') rfl rfl ?_ ⟨rfl, rfl⟩
      go_simp
    · cases hr
    · have t0 : z.tmps[0]?.getD undef = .pointer (some ⟨x, 0, none⟩) := by rw [hF.2.2 0 (by omega)]; rfl
      clear hv hF
      refine wpOp_value (v := .pointer (some ⟨x, 0, none⟩)) (w' := w') rfl rfl ?_ ⟨rfl, rfl⟩
      go_simp
    · have t0 : z.tmps[18]?.getD undef = .pointer (some ⟨x, 0, none⟩) := hv 15 (of_decide_eq_true (by kernel_rfl)) (by omega) rfl
      clear hv hF
      refine wpOp_value (v := .pointer (some ⟨x, 0, none⟩)) (w' := w') rfl rfl ?_ ⟨rfl, rfl⟩
      go_simp
    · have t0 : z.tmps[19]?.getD undef = .pointer (some ⟨x, 0, none⟩) := hv 16 (of_decide_eq_true (by kernel_rfl)) (by omega) rfl
      clear hv hF
      refine wpOp_value (v := .pointer (some ⟨x, 3, none⟩)) (w' := w') rfl rfl ?_ ⟨rfl, rfl⟩
      go_simp
    · have t0 : z.tmps[20]?.getD undef = .pointer (some ⟨x, 3, none⟩) := hv 17 (of_decide_eq_true (by kernel_rfl)) (by omega) rfl
      clear hv hF
      refine wpOp_value (v := .slice pw nw cw) (w' := w') rfl rfl ?_ ⟨rfl, rfl⟩
      go_simp
    · cases hr
  case hrow =>
    intro i r hi hr z w' hB hF hv
    rcases (show i = 0 ∨ i = 1 ∨ i = 2 ∨ i = 3 ∨ i = 4 ∨ i = 5 ∨ i = 6 ∨ i = 7 ∨ i = 8 ∨ i = 9 ∨ i = 10 ∨ i = 11 ∨ i = 12 ∨ i = 13 ∨ i = 14 ∨ i = 15 ∨ i = 16 ∨ i = 17 ∨ i = 18 ∨ i = 19 by omega) with rfl | rfl | rfl | rfl | rfl | rfl | rfl | rfl | rfl | rfl | rfl | rfl | rfl | rfl | rfl | rfl | rfl | rfl | rfl | rfl
    · cases hr
    · cases hr
    · cases hr
    · cases hr
    · have t0 : z.tmps[6]?.getD undef = .slice ph nh ch := hv 3 (of_decide_eq_true (by kernel_rfl)) (by omega) rfl
      injection hr with hr
      subst hr
      have hrow := row_below HH.out.home hB
      rw [← HNH.out] at hrow
      obtain ⟨v', w'', hrun, hown, hbel⟩ := append_copy (P := Tryz.prog) 38 38 9 i0 (.string .empty) 1 16 Tryz.underlying38 HI.out hz0 hz1 hz2 rfl (by omega) hrow (txtV_one _) (by unfold maxLen; have := HL.out; omega) (by have := HL.out; omega)
      exact wpOp_value (v := v') (w' := w'') rfl rfl (exec_append rfl rfl (by simpa [Act.eval] using t0) hrun) ⟨v', rfl, hown, hbel⟩
    · cases hr
    · cases hr
    · cases hr
    · cases hr
    · have t0 : z.tmps[11]?.getD undef = .slice po no co := hv 8 (of_decide_eq_true (by kernel_rfl)) (by omega) rfl
      injection hr with hr
      subst hr
      have hrow := row_below HH.out.on hB
      rw [← HNO.out] at hrow
      obtain ⟨v', w'', hrun, hown, hbel⟩ := append_copy (P := Tryz.prog) 38 38 9 i0 (.string .empty) 1 16 Tryz.underlying38 HI.out hz0 hz1 hz2 rfl (by omega) hrow (txtV_one _) (by unfold maxLen; have := HL.out; omega) (by have := HL.out; omega)
      exact wpOp_value (v := v') (w' := w'') rfl rfl (exec_append rfl rfl (by simpa [Act.eval] using t0) hrun) ⟨v', rfl, hown, hbel⟩
    · cases hr
    · cases hr
    · cases hr
    · cases hr
    · have t0 : z.tmps[16]?.getD undef = .slice pu nu cu := hv 13 (of_decide_eq_true (by kernel_rfl)) (by omega) rfl
      injection hr with hr
      subst hr
      have hrow := row_below HH.out.used hB
      rw [← HNU.out] at hrow
      obtain ⟨v', w'', hrun, hown, hbel⟩ := append_copy (P := Tryz.prog) 39 39 3 j0 (.int .i64 0) 1 8 Tryz.underlying39 HJ0.out hy0 hy1 hy2 rfl (by omega) hrow (intV_one _) (by unfold maxLen; have := HL.out; omega) (by have := HL.out; omega)
      exact wpOp_value (v := v') (w' := w'') rfl rfl (exec_append rfl rfl (by simpa [Act.eval] using t0) hrun) ⟨v', rfl, hown, hbel⟩
    · cases hr
    · cases hr
    · cases hr
    · cases hr
    · have t0 : z.tmps[21]?.getD undef = .slice pw nw cw := hv 18 (of_decide_eq_true (by kernel_rfl)) (by omega) rfl
      injection hr with hr
      subst hr
      have hrow := row_below HH.out.was hB
      rw [← HNW.out] at hrow
      obtain ⟨v', w'', hrun, hown, hbel⟩ := append_copy (P := Tryz.prog) 39 39 3 j0 (.int .i64 0) 1 8 Tryz.underlying39 HJ0.out hy0 hy1 hy2 rfl (by omega) hrow (intV_one _) (by unfold maxLen; have := HL.out; omega) (by have := HL.out; omega)
      exact wpOp_value (v := v') (w' := w'') rfl rfl (exec_append rfl rfl (by simpa [Act.eval] using t0) hrun) ⟨v', rfl, hown, hbel⟩
  case hrest =>
    intro L f w' hL hJ
    obtain ⟨hB, -, hR, hA⟩ := hJ
    have r4 := hR 4 _ (by omega) (hL 4 (by omega)) rfl
    have r9 := hR 9 _ (by omega) (hL 9 (by omega)) rfl
    have r14 := hR 14 _ (by omega) (hL 14 (by omega)) rfl
    have r19 := hR 19 _ (by omega) (hL 19 (by omega)) rfl
    have a1 := hA 4 9 _ _ (by omega) (by omega) (by omega) (hL 4 (by omega)) (hL 9 (by omega)) rfl rfl
    have a2 := hA 14 19 _ _ (by omega) (by omega) (by omega) (hL 14 (by omega)) (hL 19 (by omega)) rfl rfl
    obtain ⟨u0, hu0⟩ : ∃ u, u = f 4 := ⟨_, rfl⟩
    obtain ⟨u1, hu1⟩ : ∃ u, u = f 9 := ⟨_, rfl⟩
    obtain ⟨u2, hu2⟩ : ∃ u, u = f 14 := ⟨_, rfl⟩
    obtain ⟨u3, hu3⟩ : ∃ u, u = f 19 := ⟨_, rfl⟩
    rw [← hu0] at r4 a1
    rw [← hu1] at r9 a1
    rw [← hu2] at r14 a2
    rw [← hu3] at r19 a2
    obtain ⟨g0, d0, hv0, -⟩ := row_slice' r4
    obtain ⟨g1, d1, hv1, -⟩ := row_slice' r9
    obtain ⟨g2, d2, hv2, -⟩ := row_slice' r14
    obtain ⟨g3, d3, hv3, -⟩ := row_slice' r19
    simp only at hv0 hv1 hv2 hv3 r4 r9 r14 r19
    subst hv0 hv1 hv2 hv3
    obtain ⟨W2, hW2⟩ : ∃ W2, W2 = w'.alloc (.cells #[.slice g0 nh d0, .slice g1 no d1, .slice g2 nu d2, .slice g3 nw d3] 41) := ⟨_, rfl⟩
    have hb2 : Below w'.heap.size w' W2 := by rw [hW2]; exact (Below.refl _ _).alloc (Nat.le_refl _) _
    have HD : Hid (DocAt W2 w.heap.size w'.heap.size s) := Lib.hid ⟨.slice g0 nh d0, .slice g1 no d1, .slice g2 nu d2, .slice g3 nw d3, by rw [hW2]; exact Blk.new w' _ _, hB.size, by rw [← HNH.out]; exact row_below r4 hb2, by rw [← HNO.out]; exact row_below r9 hb2, by rw [← HNU.out]; exact row_below r14 hb2, by rw [← HNW.out]; exact row_below r19 hb2, a1, a2⟩
    have HBB : Hid (Below w.heap.size w W2) := Lib.hid (hB.trans (hb2.mono hB.size))
    have HW2 := Lib.hid hW2
    clear hL hB hR hA r4 r9 r14 r19 a1 a2 hb2 hW2
    rw [show List.range' 20 3 = [20, 21, 22] from rfl]
    simp only [putAll, List.range, List.range.loop, List.foldl, Nat.reduceAdd, List.setIfInBounds_toArray, List.set_cons_succ, List.set_cons_zero, ← hu0, ← hu1, ← hu2, ← hu3]
    clear hu0 hu1 hu2 hu3
    rw [wpOps_cons]
    refine wpOp_value (v := .agg #[.slice g0 nh d0, .slice g1 no d1, .slice g2 nu d2, .slice g3 nw d3]) (w' := w') rfl rfl (by go_simp) ?_
    change wpOps _ _ _ [21, 22] (Act.put _ (some 23) _) _
    simp only [Act.put, List.setIfInBounds_toArray, List.set_cons_succ, List.set_cons_zero]
    rw [wpOps_cons]
    refine wpOp_value (v := .pointer (some ⟨w'.heap.size, 0, none⟩)) (w' := w'.alloc (.cells #[.slice g0 nh d0, .slice g1 no d1, .slice g2 nu d2, .slice g3 nw d3] 41)) rfl rfl (by go_simp) ?_
    change wpOps _ _ _ [22] (Act.put _ (some 24) _) _
    simp only [Act.put, List.setIfInBounds_toArray, List.set_cons_succ, List.set_cons_zero]
    rw [← HW2.out]
    rw [wpOps_cons]
    refine wpOp_value (v := .pointer (some ⟨w'.heap.size, 0, none⟩)) (w' := W2) rfl rfl (by go_simp) ?_
    change wpOps _ _ _ [] (Act.put _ (some 2) _) _
    simp only [wpOps, Act.put, List.setIfInBounds_toArray, List.set_cons_succ, List.set_cons_zero]
    go_wp2_with fail
    go_ret
    exact ⟨_, rfl, HD.out, HBB.out⟩
set_option maxRecDepth 100000 in
set_option maxHeartbeats 1000000 in
theorem ksames_any (A B : Option Addr) (m k c d : Nat) (xs ys : List Int) (w : World) (hm : xs.length = m) (hk : ys.length = k) (hx : Ints w w.heap.size A xs) (hy : Ints w w.heap.size B ys) (hl : m ≤ 1000000) (hl2 : k ≤ 1000000) :
    Calls Tryz.prog 49 #[.slice A m c, .slice B k d] w fun e w' => e = .returned (.bool (decide (xs = ys))) ∧ ∃ n, w' = w.drewN n := by
  have HX := Lib.hid hx
  have HY := Lib.hid hy
  have HM := Lib.hid hm
  have HK := Lib.hid hk
  obtain ⟨R, hR⟩ : ∃ R, R = decide (xs = ys) := ⟨_, rfl⟩
  rw [← hR]
  have HR := Lib.hid hR
  clear hx hm hy hk hR
  by_cases hmk : m = k
  · subst hmk
    go_enter Tryz.func49, Tryz.ntmps49
    go_wp2_with fail
    go_loopw [5] (fun i wr => ∃ (j n : Nat), j ≤ m ∧ i = .int .i64 j ∧ xs.take j = ys.take j ∧ wr = w.drewN n) (fun i _ => m - (intOf i).toNat)
    case atStart => exact ⟨0, 0, Nat.zero_le _, rfl, rfl, rfl⟩
    case round =>
      obtain ⟨j, n, hj, rfl, htk, rfl⟩ := hrel
      by_cases hlt : j < m
      · have hxl : j < xs.length := by rw [HM.out]; exact hlt
        have hyl : j < ys.length := by rw [HK.out]; exact hlt
        obtain ⟨b, off, hA, hbB, hc⟩ := HX.out (by omega)
        obtain ⟨b', off', hA', hbB', hc'⟩ := HY.out (by omega)
        obtain ⟨x, hx⟩ : ∃ x, x = xs[j] := ⟨_, rfl⟩
        obtain ⟨y, hy⟩ : ∃ y, y = ys[j] := ⟨_, rfl⟩
        have hxj : xs[j]? = some x := by rw [hx]; exact List.getElem?_eq_getElem hxl
        have hyj : ys[j]? = some y := by rw [hy]; exact List.getElem?_eq_getElem hyl
        have hcx : w.cell? ⟨b, off + j, none⟩ = some (.int .i64 x) := hc j x hxj
        have hcy : w.cell? ⟨b', off' + j, none⟩ = some (.int .i64 y) := hc' j y hyj
        have HXJ := Lib.hid hxj
        have HYJ := Lib.hid hyj
        have HTK := Lib.hid htk
        clear hxj hyj hc hx hy hc' htk
        subst hA
        subst hA'
        by_cases hxy : x = y
        · subst hxy
          have HT : Hid (xs.take (j + 1) = ys.take (j + 1)) := Lib.hid (by rw [List.take_add_one, List.take_add_one, HTK.out, HXJ.out, HYJ.out])
          go_wp2_with fail
          go_quiet (fail)
          go_wp2_with fail
          go_roundw
          case rel => exact ⟨j + 1, _, by omega, by go_num, HT.out, rfl⟩
          case measure => simp [intOf]; omega
        · have hxy' : (x == y) = false := by simpa using hxy
          have HE : Hid (R = false) := Lib.hid (by
            rw [HR.out]
            refine decide_eq_false fun e => ?_
            subst e
            have := HXJ.out.symm.trans HYJ.out
            injection this with this
            exact hxy this)
          clear hxy
          go_wp2_with fail
          go_quiet (fail)
          go_wp2_with fail
          go_ret
          refine ⟨by rw [HE.out]; rfl, ?_⟩
          rw [World.drewN_drewN]
          exact ⟨_, rfl⟩
      · obtain rfl : j = m := by omega
        have HE : Hid (R = true) := Lib.hid (by
          rw [HR.out]
          rw [List.take_of_length_le (by rw [HM.out]; exact Nat.le_refl _), List.take_of_length_le (by rw [HK.out]; exact Nat.le_refl _)] at htk
          exact decide_eq_true htk)
        clear htk
        go_wp2_with fail
        go_ret
        exact ⟨by rw [HE.out]; rfl, _, rfl⟩
  · have HE : Hid (R = false) := Lib.hid (by
      rw [HR.out]
      refine decide_eq_false fun e => ?_
      subst e
      have := HM.out
      have := HK.out
      omega)
    have hmk' : ((m : Int) != (k : Int)) = true := by simp; omega
    have hmk2 : ¬ (m : Int) = (k : Int) := by omega
    clear hmk
    go_enter Tryz.func49, Tryz.ntmps49
    go_wp2_with fail
    go_ret
    exact ⟨by rw [HE.out]; rfl, 0, rfl⟩
def dirtyD (s : DocS) (t : Int) : Bool := decide (s.on.getD t.toNat .empty ≠ .empty ∨ (t = 1 ∧ s.used ≠ s.was))
def pendD (s : DocS) : List Int := (rangeI s.on.length).filter (dirtyD s)
theorem rangeI_snoc (j : Nat) : rangeI (j + 1) = rangeI j ++ [(j : Int)] := by unfold rangeI; rw [List.range_succ, List.map_append]; rfl
theorem intV_append (a b : List Int) : intV (a ++ b) = intV a ++ intV b := by unfold intV; exact List.map_append
theorem row_intsV {w : World} {base n c : Nat} {A : Option Addr} {l : List Int} (hn : n = l.length) (h : w.ownsRow base 3 1 (.slice A n c) n (intV l)) : Ints w w.heap.size A l := by subst hn; exact row_ints h
theorem txt_cell {w : World} {B n c : Nat} {p : Option Addr} {l : List ByteArray} (h : w.ownsRow B 9 1 (.slice p n c) n (txtV l)) (hn : 0 < n) : ∃ g, p = some ⟨g, 0, none⟩ ∧ B ≤ g ∧ g < w.heap.size ∧ ∀ (j : Nat) (x : ByteArray), l[j]? = some x → w.cell? ⟨g, j, none⟩ = some (.string x) := by
  obtain ⟨g, cap, e1, hb, hlt⟩ := h.form hn
  injection e1 with e1 _ e3
  subst e1 e3
  exact ⟨g, rfl, hb, hlt, fun j x hx => row_cell h (by unfold txtV; rw [List.getElem?_map, hx]; rfl)⟩
theorem ba_empty {x : ByteArray} (h : x ≠ .empty) : x.toList ≠ [] := fun e => h (by
  cases x with
  | mk d =>
    have : d.toList = [] := by simpa [Lib.toList_data] using e
    have : d = #[] := by cases d; simp_all
    subst this
    rfl)
set_option maxRecDepth 100000 in
set_option maxHeartbeats 4000000 in
theorem ddirty11_any {B x : Nat} {s : DocS} {w : World} (h : DocAt w B x s) (h1 : s.on.length ≤ 100000 ∧ s.used.length ≤ 100000 ∧ s.was.length ≤ 100000) :
    Calls Tryz.prog 24 #[.pointer (some ⟨x, 0, none⟩)] w fun e w' => ∃ A c, e = .returned (.slice A (pendD s).length c) ∧ w'.ownsRow w.heap.size 3 1 (.slice A (pendD s).length c) (pendD s).length (intV (pendD s)) ∧ Below w.heap.size w w' := by
  obtain ⟨vh, vo, vu, vw, h⟩ := h
  obtain ⟨i0, hi, hz0, hz1, hz2⟩ := info_parts hints_info
  obtain ⟨no, hno⟩ : ∃ n, n = s.on.length := ⟨_, rfl⟩
  obtain ⟨nu, hnu⟩ : ∃ n, n = s.used.length := ⟨_, rfl⟩
  obtain ⟨nw, hnw⟩ : ∃ n, n = s.was.length := ⟨_, rfl⟩
  rw [← hno, ← hnu, ← hnw] at h1
  have HH := Lib.hid h
  obtain ⟨po, co, hv1, -⟩ := row_slice' h.on
  obtain ⟨pu, cu, hv2, -⟩ := row_slice' h.used
  obtain ⟨pw, cw, hv3, -⟩ := row_slice' h.was
  subst hv1 hv2 hv3
  have HB0 : Hid (∀ w', Below w.heap.size w w' → w'.cell? ⟨x, 1, none⟩ = some (.slice po no co) ∧ w'.cell? ⟨x, 2, none⟩ = some (.slice pu nu cu) ∧ w'.cell? ⟨x, 3, none⟩ = some (.slice pw nw cw)) := Lib.hid (fun w' hb => by
    rw [hno, hnu, hnw]
    have k := h.blk.below hb h.blk.lt
    exact ⟨k.cell 1, k.cell 2, k.cell 3⟩)
  have HON : Hid (∀ w', Below w.heap.size w w' → w'.ownsRow B 9 1 (.slice po no co) no (txtV s.on)) := Lib.hid (fun w' hb => by rw [hno]; exact row_below HH.out.on hb)
  have HSM : Hid (∀ w' k, Below w.heap.size w w' → Calls Tryz.prog 49 #[.slice pu nu cu, .slice pw nw cw] (w'.drewN k) fun e w'' => e = .returned (.bool (decide (s.used = s.was))) ∧ ∃ n, w'' = (w'.drewN k).drewN n) := Lib.hid (fun w' k hb => by
    have hb' : Below w.heap.size w (w'.drewN k) := ⟨hb.os, hb.tape, hb.output, hb.size, hb.block⟩
    exact ksames_any pu pw nu nw cu cw s.used s.was _ hnu.symm hnw.symm (row_intsV hnu (by rw [hnu]; exact row_below HH.out.used hb')) (row_intsV hnw (by rw [hnw]; exact row_below HH.out.was hb')) (by omega) (by omega))
  have HNO := Lib.hid hno
  have hno2 : no ≤ 100000 := h1.1
  clear h h1 hno hnu hnw
  go_enter Tryz.func24, Tryz.ntmps24
  go_wp2_with fail
  go_loopw [3, 4] (fun v i wr => ∃ j : Nat, j ≤ no ∧ i = .int .i64 j ∧ (∃ p c, v = .slice p ((rangeI j).filter (dirtyD s)).length c) ∧ wr.ownsRow w.heap.size 3 1 v ((rangeI j).filter (dirtyD s)).length (intV ((rangeI j).filter (dirtyD s))) ∧ Below w.heap.size w wr) (fun _ i _ => no - (intOf i).toNat)
  case atStart => exact ⟨0, Nat.zero_le _, rfl, ⟨none, 0, rfl⟩, World.ownsRow_nil _ _ _ _, Below.refl _ _⟩
  case round =>
    obtain ⟨j, hj, rfl, ⟨pv, cv, rfl⟩, hown, hbr⟩ := hrel
    have HOWN := Lib.hid hown
    have HBR := Lib.hid hbr
    obtain ⟨c1, c2, c3⟩ := HB0.out wr hbr
    clear hown hbr
    by_cases hlt : j < no
    · obtain ⟨bx, hbx⟩ : ∃ bx, s.on[j]? = some bx := ⟨s.on[j]'(by rw [← HNO.out]; exact hlt), List.getElem?_eq_getElem _⟩
      obtain ⟨go, hpo, -, hgl, hcc⟩ := txt_cell (HON.out wr HBR.out) (by omega)
      have hcx := hcc j bx hbx
      have HD : Hid (dirtyD s (j : Int) = decide (bx ≠ .empty ∨ ((j : Int) = 1 ∧ s.used ≠ s.was))) := Lib.hid (by
        unfold dirtyD
        rw [Int.toNat_natCast, List.getD_eq_getElem?_getD, hbx]
        rfl)
      obtain ⟨cnt, hcnt⟩ : ∃ cnt, cnt = ((rangeI j).filter (dirtyD s)).length := ⟨_, rfl⟩
      have hcle : cnt ≤ j := by rw [hcnt]; exact Nat.le_trans (List.length_filter_le _ _) (by rw [rangeI_len]; exact Nat.le_refl _)
      rw [← hcnt] at HOWN
      have hcnt2 := hcnt
      rw [← hcnt]
      have HCN := Lib.hid hcnt
      have HSM1 : Hid (∀ k, Calls Tryz.prog 49 #[.slice pu nu cu, .slice pw nw cw] (wr.drewN k) fun e w'' => e = .returned (.bool (decide (s.used = s.was))) ∧ ∃ n, w'' = (wr.drewN k).drewN n) := Lib.hid (fun k => HSM.out wr k HBR.out)
      have HYES : Hid (dirtyD s (j : Int) = true → (rangeI (j + 1)).filter (dirtyD s) = (rangeI j).filter (dirtyD s) ++ [(j : Int)]) := Lib.hid (fun h => by rw [rangeI_snoc, List.filter_append]; simp [h])
      have HNOT : Hid (dirtyD s (j : Int) = false → (rangeI (j + 1)).filter (dirtyD s) = (rangeI j).filter (dirtyD s)) := Lib.hid (fun h => by rw [rangeI_snoc, List.filter_append]; simp [h])
      subst hpo
      clear hcc hbx hcnt hcnt2
      have hjI : (j : Int) < (no : Int) := by omega
      by_cases hb : bx = .empty
      · subst hb
        by_cases h1 : (j : Int) = 1
        · have h1' : ((j : Int) == 1) = true := by simpa using h1
          by_cases hs : s.used = s.was
          · have HN := Lib.hid (HNOT.out (by rw [HD.out]; exact decide_eq_false (by simp [hs])))
            have hs' : decide (s.used = s.was) = true := decide_eq_true hs
            rw [hs'] at HSM1
            clear hs hs' h1
            go_wp2_with fail
            go_quiet (first | (go_at_call 49; with_reducible refine Calls.quiet_of (HSM1.out _)))
            go_wp2_with fail
            go_roundw
            case rel => exact ⟨j + 1, by omega, by go_num, by rw [HN.out, ← HCN.out]; exact ⟨_, _, rfl⟩, by rw [HN.out, ← HCN.out]; exact row_below HOWN.out ⟨rfl, rfl, rfl, Nat.le_refl _, fun _ _ => rfl⟩, HBR.out.trans ⟨rfl, rfl, rfl, Nat.le_refl _, fun _ _ => rfl⟩⟩
            case measure => simp [intOf]; omega
          · have HN := Lib.hid (HYES.out (by rw [HD.out]; exact decide_eq_true (by exact .inr ⟨h1, hs⟩)))
            have hs' : decide (s.used = s.was) = false := decide_eq_false hs
            rw [hs'] at HSM1
            clear hs hs' h1
            go_wp2_with fail
            go_quiet (first | (go_at_call 49; with_reducible refine Calls.quiet_of (HSM1.out _)))
            go_upto_region 6 with fail
            obtain ⟨wd, hwd⟩ : ∃ wd, wd = wr.drewN nq := ⟨_, rfl⟩
            rw [← hwd]
            have HBD : Hid (Below w.heap.size w wd) := Lib.hid (by rw [hwd]; exact HBR.out.trans ⟨rfl, rfl, rfl, Nat.le_refl _, fun _ _ => rfl⟩)
            have HOWD : Hid (wd.ownsRow w.heap.size 3 1 (.slice pv cnt cv) cnt (intV ((rangeI j).filter (dirtyD s)))) := Lib.hid (by rw [hwd]; exact row_below HOWN.out ⟨rfl, rfl, rfl, Nat.le_refl _, fun _ _ => rfl⟩)
            clear hwd
            go_wp2_with (at_builtin; refine wpList_append_lies _ rfl (.tmp 38) (.tmp 40) 39 rfl w.heap.size 3 i0 (.int .i64 0) 1 8 Tryz.underlying39 hi hz0 hz1 hz2 rfl (by omega) _ cnt _ rfl (HOWD.out.alloc _) ⟨wd.heap.size, 0, none⟩ 1 1 [.int .i64 (j : Int)] rfl rfl ?c1 ?c2 (by omega) (by unfold maxLen; omega) (by omega) (by have := HBD.out.size; simp; omega) _ rfl ?_)
            case c1 =>
              intro q u hq
              match q, hq with
              | 0, hq => simp at hq; subst hq; simp [Addr.add]
            case c2 => intro u hu; simp at hu; subst hu; rfl
            intro g2 cap2 w2 hown2 hg2 hor2 hlt2
            have hb2 : Below w.heap.size w w2 := (HBD.out.alloc HBD.out.size _).grown hg2 (by have := HBD.out.size; simp; omega) (fun k hk => (HOWD.out.lt k hk).1)
            have HB2 := Lib.hid hb2
            have HOW := Lib.hid hown2
            clear hown2 hg2 hor2 hb2 hlt2
            have HLE : Hid (((rangeI (j + 1)).filter (dirtyD s)).length = cnt + 1) := Lib.hid (by rw [HN.out, List.length_append, ← HCN.out]; rfl)
            have HVV : Hid (intV ((rangeI j).filter (dirtyD s)) ++ [.int .i64 (j : Int)] = intV ((rangeI (j + 1)).filter (dirtyD s))) := Lib.hid (by rw [HN.out, intV_append]; rfl)
            go_wp2_with fail
            go_roundw
            case rel => exact ⟨j + 1, by omega, by go_num, by rw [HLE.out]; exact ⟨_, _, rfl⟩, by rw [HLE.out, ← HVV.out]; exact HOW.out, HB2.out⟩
            case measure => simp [intOf]; omega
        · have HN := Lib.hid (HNOT.out (by rw [HD.out]; exact decide_eq_false (by simp [h1])))
          have h1' : ((j : Int) == 1) = false := by simpa using h1
          clear h1
          go_wp2_with fail
          go_quiet (first | (go_at_call 49; with_reducible refine Calls.quiet_of (HSM1.out _)))
          go_wp2_with fail
          go_roundw
          case rel => exact ⟨j + 1, by omega, by go_num, by rw [HN.out, ← HCN.out]; exact ⟨_, _, rfl⟩, by rw [HN.out, ← HCN.out]; exact row_below HOWN.out ⟨rfl, rfl, rfl, Nat.le_refl _, fun _ _ => rfl⟩, HBR.out.trans ⟨rfl, rfl, rfl, Nat.le_refl _, fun _ _ => rfl⟩⟩
          case measure => simp [intOf]; omega
      · have HN := Lib.hid (HYES.out (by rw [HD.out]; exact decide_eq_true (by exact .inl hb)))
        have hne := ba_empty hb
        have hne1 : bx.toList.isEmpty = false := by cases h : bx.toList with | nil => exact absurd h hne | cons _ _ => rfl
        clear hne hb
        go_wp2_with fail
        go_quiet (first | (go_at_call 49; with_reducible refine Calls.quiet_of (HSM1.out _)))
        go_upto_region 6 with fail
        obtain ⟨wd, hwd⟩ : ∃ wd, wd = wr.drewN nq := ⟨_, rfl⟩
        rw [← hwd]
        have HBD : Hid (Below w.heap.size w wd) := Lib.hid (by rw [hwd]; exact HBR.out.trans ⟨rfl, rfl, rfl, Nat.le_refl _, fun _ _ => rfl⟩)
        have HOWD : Hid (wd.ownsRow w.heap.size 3 1 (.slice pv cnt cv) cnt (intV ((rangeI j).filter (dirtyD s)))) := Lib.hid (by rw [hwd]; exact row_below HOWN.out ⟨rfl, rfl, rfl, Nat.le_refl _, fun _ _ => rfl⟩)
        clear hwd
        go_wp2_with (at_builtin; refine wpList_append_lies _ rfl (.tmp 38) (.tmp 40) 39 rfl w.heap.size 3 i0 (.int .i64 0) 1 8 Tryz.underlying39 hi hz0 hz1 hz2 rfl (by omega) _ cnt _ rfl (HOWD.out.alloc _) ⟨wd.heap.size, 0, none⟩ 1 1 [.int .i64 (j : Int)] rfl rfl ?c1 ?c2 (by omega) (by unfold maxLen; omega) (by omega) (by have := HBD.out.size; simp; omega) _ rfl ?_)
        case c1 =>
          intro q u hq
          match q, hq with
          | 0, hq => simp at hq; subst hq; simp [Addr.add]
        case c2 => intro u hu; simp at hu; subst hu; rfl
        intro g2 cap2 w2 hown2 hg2 hor2 hlt2
        have hb2 : Below w.heap.size w w2 := (HBD.out.alloc HBD.out.size _).grown hg2 (by have := HBD.out.size; simp; omega) (fun k hk => (HOWD.out.lt k hk).1)
        have HB2 := Lib.hid hb2
        have HOW := Lib.hid hown2
        clear hown2 hg2 hor2 hb2 hlt2
        have HLE : Hid (((rangeI (j + 1)).filter (dirtyD s)).length = cnt + 1) := Lib.hid (by rw [HN.out, List.length_append, ← HCN.out]; rfl)
        have HVV : Hid (intV ((rangeI j).filter (dirtyD s)) ++ [.int .i64 (j : Int)] = intV ((rangeI (j + 1)).filter (dirtyD s))) := Lib.hid (by rw [HN.out, intV_append]; rfl)
        go_wp2_with fail
        go_roundw
        case rel => exact ⟨j + 1, by omega, by go_num, by rw [HLE.out]; exact ⟨_, _, rfl⟩, by rw [HLE.out, ← HVV.out]; exact HOW.out, HB2.out⟩
        case measure => simp [intOf]; omega
    · obtain rfl : j = no := by omega
      have HE : Hid ((rangeI j).filter (dirtyD s) = pendD s) := Lib.hid (by unfold pendD; rw [HNO.out])
      rw [HE.out] at HOWN ⊢
      go_wp2_with fail
      go_ret
      exact ⟨pv, cv, rfl, HOWN.out, HBR.out⟩
theorem putAll_congr (lo : Nat) (V f : Nat → Value) : ∀ (k : Nat) (t : Array Value), (∀ i, i < k → f i = V i) → putAll lo k f t = putAll lo k V t := by
  intro k
  induction k with
  | zero => intro t _; rfl
  | succ k ih =>
    intro t h
    have e : ∀ g : Nat → Value, putAll lo (k + 1) g t = (putAll lo k g t).setIfInBounds (lo + k) (g k) := fun g => by unfold putAll; rw [List.range_succ, List.foldl_append]; rfl
    rw [e, e, ih t (fun i hi => h i (by omega)), h k (by omega)]
theorem wp_region_vals {P : Program} {ops : Array Oper} {Q : Exit → Act → World → Prop} (lo k hi m : Nat) (V : Nat → Value) {id : Nat} {a : Act} {W : World}
    (hm : P.follows .mixedOrders = true) (he : early .any ops = true) (hsz : ops.size = k + m) (hm0 : 0 < m) (hsink : (List.range' k m).all (fun i => sinkL ops i) = true) (hhi : lo + k = hi + 1) (hlo : lo + k ≤ a.tmps.size)
    (hval : ∀ i, i < k → ∀ (x : Act) (w' : World), Below W.heap.size W w' → FrameKept a lo hi x → (∀ j ∈ waitsFor .any ops i, j < k → x.tmps[lo + j]?.getD undef = V j) → wpOp P ops Q i (fun x' w'' => x' = x.put (some (lo + i)) (V i) ∧ Below w'.heap.size w' w'') x w')
    (hrest : ∀ (w' : World), Below W.heap.size W w' → wpOps P ops Q (List.range' k m) ⟨putAll lo k V a.tmps, a.defers⟩ w') : (Code.region id ops true).wp P Q a W := by
  refine wp_region_phase lo k hi m (fun L f w' => Below W.heap.size W w' ∧ ∀ i, i < k → L i = true → f i = V i) hm he hsz hm0 hsink hhi hlo ?_ ?_ ?_
  · exact ⟨⟨rfl, rfl, rfl, Nat.le_refl _, fun _ _ => rfl⟩, fun _ _ h => by cases h⟩
  · intro i hik L f x w' hF hLi ⟨hB, hV⟩ hw hx
    refine wpOp_mono (fun x' w'' h => ?_) (hval i hik x w' hB hF (fun j hj hjk => (hx j hjk (hw j hj)).trans (hV j hjk (hw j hj))))
    obtain ⟨rfl, hb⟩ := h
    refine ⟨V i, rfl, hB.trans (hb.mono hB.size), fun n hn hL => ?_⟩
    by_cases e : i = n
    · subst e; show (if i = i then V i else f i) = V i; rw [if_pos rfl]
    · simp only [if_neg e] at hL ⊢; exact hV n hn hL
  · intro L f w' hL ⟨hB, hV⟩
    rw [putAll_congr lo V f k a.tmps (fun i hi => hV i hi (hL i hi))]
    exact hrest w' hB
end Go.Proofs.YtiagofgcinlnhaaGreatDoor
