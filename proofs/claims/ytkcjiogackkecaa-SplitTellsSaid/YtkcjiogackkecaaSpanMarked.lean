/-
  masonrybook's lists of spans that are kept: are all marked? No statement is proved here.
-/
import Derived.Test.YtkcjiogackkecaaSpanGrowWalk
import Derived.Test.YtkcjiogackkecaaPhase
namespace Go.Proofs.Ytkcjiogackkecaa
open Go.RowKit

/-- On the way through a round of markedSpans. -/
structure MJS (W : World) (b off k cR j : Nat) (A : Option Addr) (n c : Nat) (L : Nat → Bool) (f : Nat → Value) (w' : World) : Prop where
  f0 : L 0 = true → f 0 = .slice (some ⟨b, off, none⟩) k cR
  f1 : L 1 = true → f 1 = .int .i64 (j : Int)
  f2 : L 2 = true → f 2 = .pointer (some ⟨b, off + j, none⟩)
  f3 : L 3 = true → f 3 = .slice A n c
  f4 : L 4 = true → f 4 = .int .i64 (j : Int)
  f5 : L 5 = true → f 5 = .slice (some ⟨b, off, none⟩) k cR
  f6 : L 6 = true → f 6 = .int .i64 (j : Int)
  f7 : L 7 = true → f 7 = .pointer (some ⟨b, off + j, none⟩)
  f8 : L 8 = true → f 8 = .slice A n c
  f9 : L 9 = true → f 9 = .int .i64 (n : Int)
  f10 : L 10 = true → ∃ mp mc, f 10 = .slice mp n mc ∧ Spans w' w'.heap.size mp (marksS j 0 n)
  f11 : L 11 = true → f 11 = .bool true
  c11 : L 11 = true → L 10 = true
  below : Below W.heap.size W w'

set_option maxRecDepth 100000 in
set_option maxHeartbeats 4000000 in
theorem smarked_any (p : Option Addr) (k cR : Nat) (ls : List LS) (w : World) (hk : ls.length = k) (hp : RowAt w p (ls.map LS.val)) (hb : k ≤ 1000)
    (hs : ∀ (i : Nat) (l : LS), ls[i]? = some l → l.xs = marksS i 0 l.xs.length ∧ Spans w w.heap.size l.A l.xs ∧ l.xs.length ≤ 1000000) :
    Calls Try.prog 70 #[.slice p k cR] w fun e w' => e = .returned (.bool true) ∧ Below w.heap.size w w' := by
  have HK := Lib.hid hk
  have HP := Lib.hid hp
  have HSS := Lib.hid hs
  have hkI : (k : Int) ≤ 1000 := by omega
  clear hk hp hs
  go_enter Try.func70, Try.ntmps70
  go_wp2_with fail
  go_loopw [3] (fun i wr => ∃ j : Nat, j ≤ k ∧ i = .int .i64 j ∧ Below w.heap.size w wr) (fun i _ => k - (intOf i).toNat)
  case atStart => exact ⟨0, Nat.zero_le _, rfl, Below.refl _ _⟩
  case round =>
    obtain ⟨j, hj, rfl, hbr⟩ := hrel
    have HBR := Lib.hid hbr
    clear hbr
    by_cases hlt : j < k
    · obtain ⟨l, hl⟩ : ∃ l, ls[j]? = some l := ⟨ls[j]'(by rw [HK.out]; exact hlt), List.getElem?_eq_getElem _⟩
      obtain ⟨e1, e2, e3⟩ := HSS.out j l hl
      obtain ⟨b, off, rfl, hx⟩ := HP.out.getS hl
      obtain ⟨A, c, xs⟩ := l
      simp only at e1 e2 e3
      unfold LS.val at hx
      simp only at hx
      obtain ⟨n, hn⟩ : ∃ n, n = xs.length := ⟨_, rfl⟩
      rw [← hn] at e1 e3 hx
      subst e1
      have HX := Lib.hid hx
      have HS : Hid (∀ w' mp mc, Below w.heap.size w w' → Spans w' w'.heap.size mp (marksS j 0 n) → Calls Try.prog 14 #[.slice A n c, .slice mp n mc] w' fun e w'' => e = .returned (.bool true) ∧ Below w'.heap.size w' w'') := Lib.hid (fun w' mp mc hw hm => by
        refine (ssame_any A mp n c mc (marksS j 0 n) w' (marksS_length _ _ _) ((e2.below hw).more hw.size) hm e3).mono ?_
        rintro e w'' ⟨rfl, q, rfl⟩
        exact ⟨rfl, ⟨rfl, rfl, rfl, Nat.le_refl _, fun _ _ => rfl⟩⟩)
      have HMK : Hid (∀ W, Calls Try.prog 95 #[.int .i64 j, .int .i64 0, .int .i64 n] W fun e w' => ∃ v, e = .returned v ∧ w'.ownsRow W.heap.size 36 2 v n (flatS (marksS j 0 n)) ∧ Below W.heap.size W w') := Lib.hid (fun W => smark_any j 0 n W (by omega) (by omega) e3)
      have hjI : (j : Int) < (k : Int) := by omega
      have hnI : (n : Int) ≤ 1000000 := by omega
      clear hx hl e2 hn
      go_upto_region 4 with fail
      refine wp_region_phase 10 12 21 1 (MJS w b off k cR j A n c) (by kernel_rfl) (by kernel_rfl) rfl (by omega) (by kernel_rfl) rfl (by simp) ?h0 ?hops ?hrest
      case h0 => exact ⟨(fun h => by cases h), (fun h => by cases h), (fun h => by cases h), (fun h => by cases h), (fun h => by cases h), (fun h => by cases h), (fun h => by cases h), (fun h => by cases h), (fun h => by cases h), (fun h => by cases h), (fun h => by cases h), (fun h => by cases h), (fun h => by cases h), HBR.out.drew⟩
      case hops =>
        intro o ho L f y w' hF hLo hJ hw hy
        have HJ := Lib.hid hJ
        clear hJ
        rcases (show o = 0 ∨ o = 1 ∨ o = 2 ∨ o = 3 ∨ o = 4 ∨ o = 5 ∨ o = 6 ∨ o = 7 ∨ o = 8 ∨ o = 9 ∨ o = 10 ∨ o = 11 by omega) with rfl | rfl | rfl | rfl | rfl | rfl | rfl | rfl | rfl | rfl | rfl | rfl
        · have t0 : y.tmps[0]?.getD undef = .slice (some ⟨b, off, none⟩) k cR := by rw [hF.2.2 0 (by omega)]; rfl
          clear hw hy hF
          refine wpOp_value (v := .slice (some ⟨b, off, none⟩) k cR) (w' := w') rfl rfl ?_ ⟨_, rfl, ?_⟩
          · go_simp
          · have k := HJ.out
            exact ⟨fun _ => rfl, k.f1, k.f2, k.f3, k.f4, k.f5, k.f6, k.f7, k.f8, k.f9, k.f10, k.f11, k.c11, k.below⟩
        · have t0 : y.tmps[3]?.getD undef = .int .i64 (j : Int) := by rw [hF.2.2 3 (by omega)]; rfl
          clear hw hy hF
          refine wpOp_value (v := .int .i64 (j : Int)) (w' := w') rfl rfl ?_ ⟨_, rfl, ?_⟩
          · go_simp
          · have k := HJ.out
            exact ⟨k.f0, fun _ => rfl, k.f2, k.f3, k.f4, k.f5, k.f6, k.f7, k.f8, k.f9, k.f10, k.f11, k.c11, k.below⟩
        · have l0 : L 0 = true := hw 0 (of_decide_eq_true (by kernel_rfl))
          have t1 : y.tmps[10]?.getD undef = .slice (some ⟨b, off, none⟩) k cR := (hy 0 (by omega) l0).trans (HJ.out.f0 l0)
          have l1 : L 1 = true := hw 1 (of_decide_eq_true (by kernel_rfl))
          have t2 : y.tmps[11]?.getD undef = .int .i64 (j : Int) := (hy 1 (by omega) l1).trans (HJ.out.f1 l1)
          clear hw hy hF
          refine wpOp_value (v := .pointer (some ⟨b, off + j, none⟩)) (w' := w') rfl rfl ?_ ⟨_, rfl, ?_⟩
          · go_simp
          · have k := HJ.out
            exact ⟨k.f0, k.f1, fun _ => rfl, k.f3, k.f4, k.f5, k.f6, k.f7, k.f8, k.f9, k.f10, k.f11, k.c11, k.below⟩
        · have l2 : L 2 = true := hw 2 (of_decide_eq_true (by kernel_rfl))
          have t1 : y.tmps[12]?.getD undef = .pointer (some ⟨b, off + j, none⟩) := (hy 2 (by omega) l2).trans (HJ.out.f2 l2)
          have hcx := HX.out w' HJ.out.below
          clear hw hy hF
          refine wpOp_value (v := .slice A n c) (w' := w') rfl rfl ?_ ⟨_, rfl, ?_⟩
          · go_simp
          · have k := HJ.out
            exact ⟨k.f0, k.f1, k.f2, fun _ => rfl, k.f4, k.f5, k.f6, k.f7, k.f8, k.f9, k.f10, k.f11, k.c11, k.below⟩
        · have t0 : y.tmps[3]?.getD undef = .int .i64 (j : Int) := by rw [hF.2.2 3 (by omega)]; rfl
          clear hw hy hF
          refine wpOp_value (v := .int .i64 (j : Int)) (w' := w') rfl rfl ?_ ⟨_, rfl, ?_⟩
          · go_simp
          · have k := HJ.out
            exact ⟨k.f0, k.f1, k.f2, k.f3, fun _ => rfl, k.f5, k.f6, k.f7, k.f8, k.f9, k.f10, k.f11, k.c11, k.below⟩
        · have t0 : y.tmps[0]?.getD undef = .slice (some ⟨b, off, none⟩) k cR := by rw [hF.2.2 0 (by omega)]; rfl
          clear hw hy hF
          refine wpOp_value (v := .slice (some ⟨b, off, none⟩) k cR) (w' := w') rfl rfl ?_ ⟨_, rfl, ?_⟩
          · go_simp
          · have k := HJ.out
            exact ⟨k.f0, k.f1, k.f2, k.f3, k.f4, fun _ => rfl, k.f6, k.f7, k.f8, k.f9, k.f10, k.f11, k.c11, k.below⟩
        · have t0 : y.tmps[3]?.getD undef = .int .i64 (j : Int) := by rw [hF.2.2 3 (by omega)]; rfl
          clear hw hy hF
          refine wpOp_value (v := .int .i64 (j : Int)) (w' := w') rfl rfl ?_ ⟨_, rfl, ?_⟩
          · go_simp
          · have k := HJ.out
            exact ⟨k.f0, k.f1, k.f2, k.f3, k.f4, k.f5, fun _ => rfl, k.f7, k.f8, k.f9, k.f10, k.f11, k.c11, k.below⟩
        · have l5 : L 5 = true := hw 5 (of_decide_eq_true (by kernel_rfl))
          have t1 : y.tmps[15]?.getD undef = .slice (some ⟨b, off, none⟩) k cR := (hy 5 (by omega) l5).trans (HJ.out.f5 l5)
          have l6 : L 6 = true := hw 6 (of_decide_eq_true (by kernel_rfl))
          have t2 : y.tmps[16]?.getD undef = .int .i64 (j : Int) := (hy 6 (by omega) l6).trans (HJ.out.f6 l6)
          clear hw hy hF
          refine wpOp_value (v := .pointer (some ⟨b, off + j, none⟩)) (w' := w') rfl rfl ?_ ⟨_, rfl, ?_⟩
          · go_simp
          · have k := HJ.out
            exact ⟨k.f0, k.f1, k.f2, k.f3, k.f4, k.f5, k.f6, fun _ => rfl, k.f8, k.f9, k.f10, k.f11, k.c11, k.below⟩
        · have l7 : L 7 = true := hw 7 (of_decide_eq_true (by kernel_rfl))
          have t1 : y.tmps[17]?.getD undef = .pointer (some ⟨b, off + j, none⟩) := (hy 7 (by omega) l7).trans (HJ.out.f7 l7)
          have hcx := HX.out w' HJ.out.below
          clear hw hy hF
          refine wpOp_value (v := .slice A n c) (w' := w') rfl rfl ?_ ⟨_, rfl, ?_⟩
          · go_simp
          · have k := HJ.out
            exact ⟨k.f0, k.f1, k.f2, k.f3, k.f4, k.f5, k.f6, k.f7, fun _ => rfl, k.f9, k.f10, k.f11, k.c11, k.below⟩
        · have l8 : L 8 = true := hw 8 (of_decide_eq_true (by kernel_rfl))
          have t1 : y.tmps[18]?.getD undef = .slice A n c := (hy 8 (by omega) l8).trans (HJ.out.f8 l8)
          clear hw hy hF
          refine wpOp_value (v := .int .i64 (n : Int)) (w' := w') rfl rfl ?_ ⟨_, rfl, ?_⟩
          · go_simp
          · have k := HJ.out
            exact ⟨k.f0, k.f1, k.f2, k.f3, k.f4, k.f5, k.f6, k.f7, k.f8, fun _ => rfl, k.f10, k.f11, k.c11, k.below⟩
        · have l4 : L 4 = true := hw 4 (of_decide_eq_true (by kernel_rfl))
          have l9 : L 9 = true := hw 9 (of_decide_eq_true (by kernel_rfl))
          have t1 : y.tmps[14]?.getD undef = .int .i64 (j : Int) := (hy 4 (by omega) l4).trans (HJ.out.f4 l4)
          have t2 : y.tmps[19]?.getD undef = .int .i64 (n : Int) := (hy 9 (by omega) l9).trans (HJ.out.f9 l9)
          have l11 : L 11 = false := by
            cases hl : L 11 with
            | false => rfl
            | true => rw [HJ.out.c11 hl] at hLo; cases hLo
          clear hw hy hF
          refine wpOp_call (f := 95) (args := #[.int .i64 j, .int .i64 0, .int .i64 n]) rfl rfl (by go_simp) ((HMK.out w').mono ?_)
          rintro e w'' ⟨v, rfl, hrow, hb2⟩
          obtain ⟨mp, mc, rfl, -⟩ := row_slice' hrow
          refine ⟨_, rfl, _, rfl, ?_⟩
          have k := HJ.out
          have hrow' : w''.ownsRow w'.heap.size 36 2 (.slice mp (marksS j 0 n).length mc) (marksS j 0 n).length (flatS (marksS j 0 n)) := by rw [marksS_length]; exact hrow
          exact ⟨k.f0, k.f1, k.f2, k.f3, k.f4, k.f5, k.f6, k.f7, k.f8, k.f9, fun _ => ⟨mp, mc, rfl, row_spans hrow'⟩, (fun h => by rw [show L 11 = true from h] at l11; cases l11), (fun h => by rw [show L 11 = true from h] at l11; cases l11), k.below.trans (hb2.mono k.below.size)⟩
        · have l3 : L 3 = true := hw 3 (of_decide_eq_true (by kernel_rfl))
          have l10 : L 10 = true := hw 10 (of_decide_eq_true (by kernel_rfl))
          obtain ⟨mp, mc, hf10, hmi⟩ := HJ.out.f10 l10
          have t1 : y.tmps[13]?.getD undef = .slice A n c := (hy 3 (by omega) l3).trans (HJ.out.f3 l3)
          have t2 : y.tmps[20]?.getD undef = .slice mp n mc := (hy 10 (by omega) l10).trans hf10
          have HMI := Lib.hid hmi
          have HF10 := Lib.hid hf10
          clear hw hy hF hmi hf10
          refine wpOp_call (f := 14) (args := #[.slice A n c, .slice mp n mc]) rfl rfl (by go_simp) ((HS.out w' mp mc HJ.out.below HMI.out).mono ?_)
          rintro e w'' ⟨rfl, hb2⟩
          refine ⟨_, rfl, _, rfl, ?_⟩
          have k := HJ.out
          exact ⟨k.f0, k.f1, k.f2, k.f3, k.f4, k.f5, k.f6, k.f7, k.f8, k.f9, fun _ => ⟨mp, mc, HF10.out, (HMI.out.below hb2).more hb2.size⟩, fun _ => rfl, fun _ => l10, k.below.trans (hb2.mono k.below.size)⟩
      case hrest =>
        intro L f w' hL hJ
        have hf11 := hJ.f11 (hL 11 (by omega))
        have HB7 := Lib.hid hJ.below
        clear hJ hL
        rw [show List.range' 12 1 = [12] from rfl]
        simp only [putAll, List.range, List.range.loop, List.foldl, Nat.reduceAdd, List.setIfInBounds_toArray, List.set_cons_succ, List.set_cons_zero, hf11]
        clear hf11
        rw [wpOps_cons]
        refine wpOp_value (v := .bool false) (w' := w') rfl rfl (by go_simp) ?_
        change wpOps _ _ _ [] (Act.put _ (some 22) (.bool false)) _
        simp only [wpOps, Act.put, List.setIfInBounds_toArray, List.set_cons_succ, List.set_cons_zero]
        go_wp2_with fail
        go_roundw
        case rel => exact ⟨j + 1, by omega, by go_num, HB7.out⟩
        case measure => simp [intOf]; omega
    · obtain rfl : j = k := by omega
      go_wp2_with fail
      go_ret
      exact ⟨rfl, HBR.out⟩
end Go.Proofs.Ytkcjiogackkecaa
