/-
  The statements' first calls of package cdc. No statement is proved here.
-/
import Derived.Test.YtnmdpbnddbccmaaCdcCut
import Derived.Test.YtnmdpbnddbccmaaLoose
import Derived.Test.YtnmdpbnddbccmaaRowOps
namespace Go.Proofs.Ytnmdpbnddbccmaa
open Go.RowKit

/-- The rule of stores. -/
def dfl : RuleN := ⟨32, 64, 128, 7, 5⟩
theorem dfl_ok : dfl.ok = true := by decide
theorem rule_var {W : World} {b : Nat} {a1 a2 a3 a4 a5 : Value} (hb : Blk W b 23 #[a1, a2, a3, a4, a5]) :
    (loadVar 23 ⟨b, 0, none⟩).run Try.prog W = .ok (.agg #[a1, a2, a3, a4, a5]) W :=
  run_var_part (off := 0) hb (fun j v h => by rw [Nat.zero_add]; exact h) (fun w => by kernel_rfl) (fun w => by kernel_rfl)
set_option maxRecDepth 100000 in
set_option maxHeartbeats 1000000 in
theorem default_any (w : World) : Calls Try.prog 10 #[] w fun e w' => e = .returned (.agg #[.int .i64 32, .int .i64 64, .int .i64 128, .int .i64 7, .int .i64 5]) ∧ Below w.heap.size w w' := by
  go_enter Try.func10, Try.ntmps10
  go_wp2_with fail
  refine ret_cell rfl rfl (rule_var (Blk.new w _ _)) rfl ?_
  exact ⟨rfl, (Below.refl _ _).alloc (Nat.le_refl _) _⟩
theorem zeros_conv {w : World} {b n : Nat} (hb : Blk w b 5 (Lib.byteCells (zeroB n).data.toList).toArray) :
    (convert 58 9 (.slice (some ⟨b, 0, none⟩) n n)).run Try.prog w = .ok (.string (zeroB n)) w := by
  have hl : (zeroB n).data.toList.length = n := by rw [zeroB_list, List.length_replicate]
  have hr := run_convert_bytes_back (P := Try.prog) w 58 9 5 ⟨b, 0, none⟩ (zeroB n).data.toList.length (zeroB n).data.toList Try.underlying58 Try.underlying5 Try.underlying9
    (fun j hj => by
      rw [Go.WideShapes.add_plain, hb.cell (0 + j)]
      simp [Lib.byteCells]
      exact ⟨(zeroB n).data[j]'(by simpa using hj), Array.getElem?_eq_getElem (by simpa using hj), rfl⟩)
  rw [hl] at hr
  exact hr
theorem first_zeros : firstL dfl (zeroB 32).data.toList = 32 := by
  unfold firstL
  rw [if_pos dfl_ok, if_pos (by rw [zeroB_list, List.length_replicate]; decide), zeroB_list, List.length_replicate]
theorem cut_a : (cutL dfl 0 (cats [⟨#[97]⟩])).length = 1 := by
  have e : cats [⟨#[97]⟩] = [97] := by decide
  have h1 : firstL dfl [97] = 1 := by
    unfold firstL
    rw [if_pos dfl_ok, if_pos (by decide)]
    rfl
  rw [e, cutL_cons dfl 0 [97] (by decide), h1]
  simp [cutL_nil]
set_option maxRecDepth 100000 in
set_option maxHeartbeats 4000000 in
theorem alive14_any (w : World) : Calls Try.prog 9 #[] w fun e w' => e = .returned (.bool true) ∧ Below w.heap.size w w' := by
  go_enter Try.func9, Try.ntmps9
  go_wp2_with fail
  refine (default_any w).mono ?_
  rintro e w0 ⟨rfl, hb0⟩
  obtain ⟨g, hg⟩ : ∃ g, g = w0.heap.size := ⟨_, rfl⟩
  obtain ⟨w1, hw1⟩ : ∃ w1, w1 = w0.alloc (.cells #[.int .i64 32, .int .i64 64, .int .i64 128, .int .i64 7, .int .i64 5] 23) := ⟨_, rfl⟩
  have hbk : Blk w1 g 23 #[.int .i64 32, .int .i64 64, .int .i64 128, .int .i64 7, .int .i64 5] := by rw [hw1, hg]; exact Blk.new w0 _ _
  have HB1 : Hid (Below w.heap.size w w1) := Lib.hid (by rw [hw1]; exact hb0.alloc hb0.size _)
  have HC : Hid (∀ w', Below w1.heap.size w1 w' → w'.cell? ⟨g, 0, none⟩ = some (.int .i64 32) ∧ w'.cell? ⟨g, 1, none⟩ = some (.int .i64 64) ∧ w'.cell? ⟨g, 2, none⟩ = some (.int .i64 128) ∧ w'.cell? ⟨g, 3, none⟩ = some (.int .i64 7) ∧ w'.cell? ⟨g, 4, none⟩ = some (.int .i64 5)) := Lib.hid (fun w' hw => by
    have hk := hbk.below hw hbk.lt
    exact ⟨hk.cell 0, hk.cell 1, hk.cell 2, hk.cell 3, hk.cell 4⟩)
  have HV := Lib.hid (cvalid_any dfl)
  rw [dfl_ok] at HV
  have HF := Lib.hid (fun w => cfirst_any dfl (zeroB 32) w (by rw [zeroB_size]; omega))
  rw [first_zeros] at HF
  have HCUT : Hid (∀ (w' : World) (b : Nat), Blk w' b 9 #[.string ⟨#[97]⟩] → Calls Try.prog 13 #[.agg #[.int .i64 32, .int .i64 64, .int .i64 128, .int .i64 7, .int .i64 5], .slice (some ⟨b, 0, none⟩) 1 1] w' fun e w'' => ∃ p c, e = .returned (.slice p 1 c) ∧ Below w'.heap.size w' w'') := Lib.hid (fun w' b hb => by
    refine (ccut_any dfl (some ⟨b, 0, none⟩) 1 1 [⟨#[97]⟩] w' rfl (fun _ => ⟨b, 0, rfl, hb.lt, fun j x hx => ?_⟩) (by omega) (Nat.le_refl _) (by decide)).mono ?_
    · cases j with
      | zero => simp at hx; subst hx; exact hb.cell 0
      | succ j => simp at hx
    · rintro e w'' ⟨p, c, rfl, -, hb2⟩
      rw [cut_a]
      exact ⟨p, c, rfl, hb2⟩)
  unfold dfl RuleN.val at HV HF
  simp only at HV HF
  go_upto_region 2 with fail
  rw [← hw1, ← hg]
  clear hbk hb0 hw1 hg
  refine wp_region_loosely 22 [some 3, some 4, some 5, some 6, some 7, some 8, some 9, some 10, some 11, some 12, some 13, some 14, some 15, some 16, some 17, some 18, some 19, some 20, some 21, some 22, some 23, some 0] [some (.agg #[.int .i64 32, .int .i64 64, .int .i64 128, .int .i64 7, .int .i64 5]), some (.agg #[.int .i64 32, .int .i64 64, .int .i64 128, .int .i64 7, .int .i64 5]), some (.bool true), some (.bool true), some (.agg #[.int .i64 32, .int .i64 64, .int .i64 128, .int .i64 7, .int .i64 5]), some (.bool true), some (.bool true), some (.bool true), some (.agg #[.int .i64 32, .int .i64 64, .int .i64 128, .int .i64 7, .int .i64 5]), none, some (.string (zeroB 32)), some (.int .i64 32), some (.bool true), some (.bool true), some (.bool true), some (.agg #[.int .i64 32, .int .i64 64, .int .i64 128, .int .i64 7, .int .i64 5]), none, none, some (.int .i64 1), some (.bool true), some (.bool true), some (.bool true)] (fun _ w' => Below w1.heap.size w1 w') (fun _ w w' => Below w.heap.size w w') (fun L i v w => (i = 9 → (fun _ v w => ∃ b, v = .slice (some ⟨b, 0, none⟩) 32 32 ∧ Blk w b 5 (Lib.byteCells (zeroB 32).data.toList).toArray) L v w) ∧ (i = 16 → (fun _ v w => ∃ b, v = .slice (some ⟨b, 0, none⟩) 1 1 ∧ Blk w b 9 #[.string ⟨#[97]⟩]) L v w) ∧ (i = 17 → (fun _ v _ => ∃ p c, v = .slice p 1 c) L v w)) (by kernel_rfl) (by kernel_rfl) rfl (by kernel_rfl) (by kernel_rfl) ?hM (fun _ _ _ _ _ h g => h.trans (g.mono h.size)) (below_dn _ 1) ?hops ?hrest
  case hM =>
    intro L o i v w w' hne hLi hLo hcl h hj hg
    exact ⟨(fun e => by
      have hh := h.1 e
      subst e
      exact (match hh with | ⟨b, e, hb⟩ => ⟨b, e, hb.below hg hb.lt⟩)), (fun e => by
      have hh := h.2.1 e
      subst e
      exact (match hh with | ⟨b, e, hb⟩ => ⟨b, e, hb.below hg hb.lt⟩)), (fun e => by
      have hh := h.2.2 e
      subst e
      exact hh)⟩
  case hops =>
    intro o ho L f x' w2 hcl hfr hLo hj hw
    rcases (show o = 0 ∨ o = 1 ∨ o = 2 ∨ o = 3 ∨ o = 4 ∨ o = 5 ∨ o = 6 ∨ o = 7 ∨ o = 8 ∨ o = 9 ∨ o = 10 ∨ o = 11 ∨ o = 12 ∨ o = 13 ∨ o = 14 ∨ o = 15 ∨ o = 16 ∨ o = 17 ∨ o = 18 ∨ o = 19 ∨ o = 20 ∨ o = 21 by omega) with rfl | rfl | rfl | rfl | rfl | rfl | rfl | rfl | rfl | rfl | rfl | rfl | rfl | rfl | rfl | rfl | rfl | rfl | rfl | rfl | rfl | rfl
    · have e1 : x'.tmps[1]?.getD undef = .pointer (some ⟨g, 0, none⟩) := by rw [hfr 1 (slL_far (by kernel_rfl))]; rfl
      obtain ⟨z0, z1, z2, z3, z4⟩ := HC.out w2 hj
      clear hw hfr hcl hLo
      refine wpOp_on (v := .agg #[.int .i64 32, .int .i64 64, .int .i64 128, .int .i64 7, .int .i64 5]) (w' := w2) rfl (wanted_none rfl) ?_ ⟨_, rfl, (Below.refl _ _), .known rfl ⟨(fun e => absurd e (by decide)), (fun e => absurd e (by decide)), (fun e => absurd e (by decide))⟩⟩
      go_simp
    · clear hw hfr hcl hLo
      refine wpOp_on (v := .agg #[.int .i64 32, .int .i64 64, .int .i64 128, .int .i64 7, .int .i64 5]) (w' := w2) rfl (wanted_none rfl) ?_ ⟨_, rfl, (Below.refl _ _), .known rfl ⟨(fun e => absurd e (by decide)), (fun e => absurd e (by decide)), (fun e => absurd e (by decide))⟩⟩
      go_simp
    · have e1 : x'.tmps[3]?.getD undef = .agg #[.int .i64 32, .int .i64 64, .int .i64 128, .int .i64 7, .int .i64 5] := (hw 0 (of_decide_eq_true (by kernel_rfl))).is rfl rfl
      have e2 : x'.tmps[4]?.getD undef = .agg #[.int .i64 32, .int .i64 64, .int .i64 128, .int .i64 7, .int .i64 5] := (hw 1 (of_decide_eq_true (by kernel_rfl))).is rfl rfl
      clear hw hfr hcl hLo
      refine wpOp_on (v := .bool true) (w' := w2) rfl (wanted_none rfl) ?_ ⟨_, rfl, (Below.refl _ _), .known rfl ⟨(fun e => absurd e (by decide)), (fun e => absurd e (by decide)), (fun e => absurd e (by decide))⟩⟩
      go_simp
    · have e1 : x'.tmps[5]?.getD undef = .bool true := (hw 2 (of_decide_eq_true (by kernel_rfl))).is rfl rfl
      clear hw hfr hcl hLo
      refine wpOp_on (v := .bool true) (w' := w2) rfl (wanted_none rfl) ?_ ⟨_, rfl, (Below.refl _ _), .known rfl ⟨(fun e => absurd e (by decide)), (fun e => absurd e (by decide)), (fun e => absurd e (by decide))⟩⟩
      go_simp
    · have eg : x'.tmps[6]?.getD undef = .bool true := (hw 3 (of_decide_eq_true (by kernel_rfl))).is rfl rfl
      have e1 : x'.tmps[1]?.getD undef = .pointer (some ⟨g, 0, none⟩) := by rw [hfr 1 (slL_far (by kernel_rfl))]; rfl
      obtain ⟨z0, z1, z2, z3, z4⟩ := HC.out w2 hj
      clear hw hfr hcl hLo
      refine wpOp_on (v := .agg #[.int .i64 32, .int .i64 64, .int .i64 128, .int .i64 7, .int .i64 5]) (w' := w2) rfl (guard_is (b := true) rfl rfl eg) ?_ ⟨_, rfl, (Below.refl _ _), .known rfl ⟨(fun e => absurd e (by decide)), (fun e => absurd e (by decide)), (fun e => absurd e (by decide))⟩⟩
      go_simp
    · have eg : x'.tmps[6]?.getD undef = .bool true := (hw 3 (of_decide_eq_true (by kernel_rfl))).is rfl rfl
      have e1 : x'.tmps[7]?.getD undef = .agg #[.int .i64 32, .int .i64 64, .int .i64 128, .int .i64 7, .int .i64 5] := (hw 4 (of_decide_eq_true (by kernel_rfl))).is rfl rfl
      clear hw hfr hcl hLo
      refine wpOp_enter (f := 16) (args := #[.agg #[.int .i64 32, .int .i64 64, .int .i64 128, .int .i64 7, .int .i64 5]]) rfl (guard_is (b := true) rfl rfl eg) (by go_simp) ((HV.out w2).mono ?_)
      rintro e wy ⟨rfl, hb⟩
      exact ⟨_, rfl, _, rfl, hb, .known rfl ⟨(fun e => absurd e (by decide)), (fun e => absurd e (by decide)), (fun e => absurd e (by decide))⟩⟩
    · have e1 : x'.tmps[6]?.getD undef = .bool true := (hw 3 (of_decide_eq_true (by kernel_rfl))).is rfl rfl
      have e2 : x'.tmps[8]?.getD undef = .bool true := (hw 5 (of_decide_eq_true (by kernel_rfl))).is rfl rfl
      clear hw hfr hcl hLo
      refine wpOp_on (v := .bool true) (w' := w2) rfl (wanted_none rfl) ?_ ⟨_, rfl, (Below.refl _ _), .known rfl ⟨(fun e => absurd e (by decide)), (fun e => absurd e (by decide)), (fun e => absurd e (by decide))⟩⟩
      go_simp
    · have e1 : x'.tmps[9]?.getD undef = .bool true := (hw 6 (of_decide_eq_true (by kernel_rfl))).is rfl rfl
      clear hw hfr hcl hLo
      refine wpOp_on (v := .bool true) (w' := w2) rfl (wanted_none rfl) ?_ ⟨_, rfl, (Below.refl _ _), .known rfl ⟨(fun e => absurd e (by decide)), (fun e => absurd e (by decide)), (fun e => absurd e (by decide))⟩⟩
      go_simp
    · have eg : x'.tmps[10]?.getD undef = .bool true := (hw 7 (of_decide_eq_true (by kernel_rfl))).is rfl rfl
      have e1 : x'.tmps[1]?.getD undef = .pointer (some ⟨g, 0, none⟩) := by rw [hfr 1 (slL_far (by kernel_rfl))]; rfl
      obtain ⟨z0, z1, z2, z3, z4⟩ := HC.out w2 hj
      clear hw hfr hcl hLo
      refine wpOp_on (v := .agg #[.int .i64 32, .int .i64 64, .int .i64 128, .int .i64 7, .int .i64 5]) (w' := w2) rfl (guard_is (b := true) rfl rfl eg) ?_ ⟨_, rfl, (Below.refl _ _), .known rfl ⟨(fun e => absurd e (by decide)), (fun e => absurd e (by decide)), (fun e => absurd e (by decide))⟩⟩
      go_simp
    · have eg : x'.tmps[10]?.getD undef = .bool true := (hw 7 (of_decide_eq_true (by kernel_rfl))).is rfl rfl
      have hmk : (Instr.makeSlice 58 (.int .i64 32) (.int .i64 32)).run Try.prog w2 = .ok (.slice (some ⟨w2.heap.size, 0, none⟩) 32 32) (w2.alloc (.cells (Lib.byteCells (zeroB 32).data.toList).toArray 5)) := zeros_make w2 32 (by omega)
      clear hw hfr hcl hLo
      refine wpOp_on (v := .slice (some ⟨w2.heap.size, 0, none⟩) 32 32) (w' := (w2.alloc (.cells (Lib.byteCells (zeroB 32).data.toList).toArray 5))) rfl (guard_is (b := true) rfl rfl eg) ?_ ⟨_, rfl, ((Below.refl _ _).alloc (Nat.le_refl _) _), .loose rfl ⟨(fun _ => ⟨_, rfl, Blk.new w2 _ _⟩), (fun e => absurd e (by decide)), (fun e => absurd e (by decide))⟩⟩
      go_simp
    · have eg : x'.tmps[10]?.getD undef = .bool true := (hw 7 (of_decide_eq_true (by kernel_rfl))).is rfl rfl
      have e1 := (hw 9 (of_decide_eq_true (by kernel_rfl)))
      obtain ⟨b, ev, hbk⟩ := e1.2.1.2.1 rfl
      have e1' : x'.tmps[12]?.getD undef = .slice (some ⟨b, 0, none⟩) 32 32 := (e1.2.2 12 rfl).trans ev
      have hcv := zeros_conv hbk
      clear e1
      clear hw hfr hcl hLo
      refine wpOp_on (v := .string (zeroB 32)) (w' := w2) rfl (guard_is (b := true) rfl rfl eg) ?_ ⟨_, rfl, (Below.refl _ _), .known rfl ⟨(fun e => absurd e (by decide)), (fun e => absurd e (by decide)), (fun e => absurd e (by decide))⟩⟩
      go_simp
    · have eg : x'.tmps[10]?.getD undef = .bool true := (hw 7 (of_decide_eq_true (by kernel_rfl))).is rfl rfl
      have e1 : x'.tmps[11]?.getD undef = .agg #[.int .i64 32, .int .i64 64, .int .i64 128, .int .i64 7, .int .i64 5] := (hw 8 (of_decide_eq_true (by kernel_rfl))).is rfl rfl
      have e2 : x'.tmps[13]?.getD undef = .string (zeroB 32) := (hw 10 (of_decide_eq_true (by kernel_rfl))).is rfl rfl
      clear hw hfr hcl hLo
      refine wpOp_enter (f := 18) (args := #[.agg #[.int .i64 32, .int .i64 64, .int .i64 128, .int .i64 7, .int .i64 5], .string (zeroB 32)]) rfl (guard_is (b := true) rfl rfl eg) (by go_simp) ((HF.out w2).mono ?_)
      rintro e wy ⟨rfl, hb⟩
      exact ⟨_, rfl, _, rfl, hb, .known rfl ⟨(fun e => absurd e (by decide)), (fun e => absurd e (by decide)), (fun e => absurd e (by decide))⟩⟩
    · have eg : x'.tmps[10]?.getD undef = .bool true := (hw 7 (of_decide_eq_true (by kernel_rfl))).is rfl rfl
      have e1 : x'.tmps[14]?.getD undef = .int .i64 32 := (hw 11 (of_decide_eq_true (by kernel_rfl))).is rfl rfl
      clear hw hfr hcl hLo
      refine wpOp_on (v := .bool true) (w' := w2) rfl (guard_is (b := true) rfl rfl eg) ?_ ⟨_, rfl, (Below.refl _ _), .known rfl ⟨(fun e => absurd e (by decide)), (fun e => absurd e (by decide)), (fun e => absurd e (by decide))⟩⟩
      go_simp
    · have e1 : x'.tmps[10]?.getD undef = .bool true := (hw 7 (of_decide_eq_true (by kernel_rfl))).is rfl rfl
      have e2 : x'.tmps[15]?.getD undef = .bool true := (hw 12 (of_decide_eq_true (by kernel_rfl))).is rfl rfl
      clear hw hfr hcl hLo
      refine wpOp_on (v := .bool true) (w' := w2) rfl (wanted_none rfl) ?_ ⟨_, rfl, (Below.refl _ _), .known rfl ⟨(fun e => absurd e (by decide)), (fun e => absurd e (by decide)), (fun e => absurd e (by decide))⟩⟩
      go_simp
    · have e1 : x'.tmps[16]?.getD undef = .bool true := (hw 13 (of_decide_eq_true (by kernel_rfl))).is rfl rfl
      clear hw hfr hcl hLo
      refine wpOp_on (v := .bool true) (w' := w2) rfl (wanted_none rfl) ?_ ⟨_, rfl, (Below.refl _ _), .known rfl ⟨(fun e => absurd e (by decide)), (fun e => absurd e (by decide)), (fun e => absurd e (by decide))⟩⟩
      go_simp
    · have eg : x'.tmps[17]?.getD undef = .bool true := (hw 14 (of_decide_eq_true (by kernel_rfl))).is rfl rfl
      have e1 : x'.tmps[1]?.getD undef = .pointer (some ⟨g, 0, none⟩) := by rw [hfr 1 (slL_far (by kernel_rfl))]; rfl
      obtain ⟨z0, z1, z2, z3, z4⟩ := HC.out w2 hj
      clear hw hfr hcl hLo
      refine wpOp_on (v := .agg #[.int .i64 32, .int .i64 64, .int .i64 128, .int .i64 7, .int .i64 5]) (w' := w2) rfl (guard_is (b := true) rfl rfl eg) ?_ ⟨_, rfl, (Below.refl _ _), .known rfl ⟨(fun e => absurd e (by decide)), (fun e => absurd e (by decide)), (fun e => absurd e (by decide))⟩⟩
      go_simp
    · have eg : x'.tmps[17]?.getD undef = .bool true := (hw 14 (of_decide_eq_true (by kernel_rfl))).is rfl rfl
      clear hw hfr hcl hLo
      refine wpOp_on (v := .slice (some ⟨w2.heap.size, 0, none⟩) 1 1) (w' := (w2.alloc (.cells #[.string ⟨#[97]⟩] 9))) rfl (guard_is (b := true) rfl rfl eg) ?_ ⟨_, rfl, ((Below.refl _ _).alloc (Nat.le_refl _) _), .loose rfl ⟨(fun e => absurd e (by decide)), (fun _ => ⟨_, rfl, Blk.new w2 _ _⟩), (fun e => absurd e (by decide))⟩⟩
      go_simp
    · have eg : x'.tmps[17]?.getD undef = .bool true := (hw 14 (of_decide_eq_true (by kernel_rfl))).is rfl rfl
      have e1 : x'.tmps[18]?.getD undef = .agg #[.int .i64 32, .int .i64 64, .int .i64 128, .int .i64 7, .int .i64 5] := (hw 15 (of_decide_eq_true (by kernel_rfl))).is rfl rfl
      have e2 := (hw 16 (of_decide_eq_true (by kernel_rfl)))
      obtain ⟨b, ev, hbk⟩ := e2.2.1.2.2.1 rfl
      have e2' : x'.tmps[19]?.getD undef = .slice (some ⟨b, 0, none⟩) 1 1 := (e2.2.2 19 rfl).trans ev
      clear e2
      clear hw hfr hcl hLo
      refine wpOp_enter (f := 13) (args := #[.agg #[.int .i64 32, .int .i64 64, .int .i64 128, .int .i64 7, .int .i64 5], .slice (some ⟨b, 0, none⟩) 1 1]) rfl (guard_is (b := true) rfl rfl eg) (by go_simp) ((HCUT.out w2 b hbk).mono ?_)
      rintro e wy ⟨p, c, rfl, hb⟩
      exact ⟨_, rfl, _, rfl, hb, .loose rfl ⟨(fun e => absurd e (by decide)), (fun e => absurd e (by decide)), (fun _ => ⟨p, c, rfl⟩)⟩⟩
    · have eg : x'.tmps[17]?.getD undef = .bool true := (hw 14 (of_decide_eq_true (by kernel_rfl))).is rfl rfl
      have e1 := (hw 17 (of_decide_eq_true (by kernel_rfl)))
      obtain ⟨p, c, ev⟩ := e1.2.1.2.2.2 rfl
      have e1' : x'.tmps[20]?.getD undef = .slice p 1 c := (e1.2.2 20 rfl).trans ev
      clear e1
      clear hw hfr hcl hLo
      refine wpOp_on (v := .int .i64 1) (w' := w2) rfl (guard_is (b := true) rfl rfl eg) ?_ ⟨_, rfl, (Below.refl _ _), .known rfl ⟨(fun e => absurd e (by decide)), (fun e => absurd e (by decide)), (fun e => absurd e (by decide))⟩⟩
      go_simp
    · have eg : x'.tmps[17]?.getD undef = .bool true := (hw 14 (of_decide_eq_true (by kernel_rfl))).is rfl rfl
      have e1 : x'.tmps[21]?.getD undef = .int .i64 1 := (hw 18 (of_decide_eq_true (by kernel_rfl))).is rfl rfl
      clear hw hfr hcl hLo
      refine wpOp_on (v := .bool true) (w' := w2) rfl (guard_is (b := true) rfl rfl eg) ?_ ⟨_, rfl, (Below.refl _ _), .known rfl ⟨(fun e => absurd e (by decide)), (fun e => absurd e (by decide)), (fun e => absurd e (by decide))⟩⟩
      go_simp
    · have e1 : x'.tmps[17]?.getD undef = .bool true := (hw 14 (of_decide_eq_true (by kernel_rfl))).is rfl rfl
      have e2 : x'.tmps[22]?.getD undef = .bool true := (hw 19 (of_decide_eq_true (by kernel_rfl))).is rfl rfl
      clear hw hfr hcl hLo
      refine wpOp_on (v := .bool true) (w' := w2) rfl (wanted_none rfl) ?_ ⟨_, rfl, (Below.refl _ _), .known rfl ⟨(fun e => absurd e (by decide)), (fun e => absurd e (by decide)), (fun e => absurd e (by decide))⟩⟩
      go_simp
    · have e1 : x'.tmps[23]?.getD undef = .bool true := (hw 20 (of_decide_eq_true (by kernel_rfl))).is rfl rfl
      clear hw hfr hcl hLo
      refine wpOp_on (v := .bool true) (w' := w2) rfl (wanted_none rfl) ?_ ⟨_, rfl, (Below.refl _ _), .known rfl ⟨(fun e => absurd e (by decide)), (fun e => absurd e (by decide)), (fun e => absurd e (by decide))⟩⟩
      go_simp
  case hrest =>
    intro L f wz hL hj hF
    have f21 : f 21 = .bool true := (hF 21 (by omega)).is rfl
    clear hF hL
    simp only [putSlots, slL, List.range, List.range.loop, List.foldl, List.getElem?_cons_zero, List.getElem?_cons_succ, Option.getD_some, List.setIfInBounds_toArray, List.set_cons_succ, List.set_cons_zero, f21]
    clear f21
    go_wp2_with fail
    go_ret
    exact ⟨rfl, HB1.out.trans (hj.mono HB1.out.size)⟩
end Go.Proofs.Ytnmdpbnddbccmaa
