/-
  The document's own Put once more: the row that it answers is the one that came in, or a new one. No statement is proved here.
-/
import Derived.Test.YtiagofgcinlnhaaGreatDoorRoomMore
namespace Go.Proofs.YtiagofgcinlnhaaGreatDoor
open Go.RowKit
set_option maxRecDepth 100000 in
set_option maxHeartbeats 4000000 in
theorem rput_more (x : Int) (A : Option Addr) (c n : Nat) (l : List Int) (B : Nat) (w : World) (hn : l.length = n) (hrow : w.ownsRow B 3 1 (.slice A n c) n (l.map (Value.int .i64))) (hb : n ≤ 1000000) :
    Calls Tryz.prog 14 #[.slice A n c, .int .i64 x] w fun e w' => ∃ A' c', e = .returned (.slice A' (putL x l).length c') ∧ ((A' = A ∧ c' = c ∧ putL x l = l) ∨ w'.ownsRow w.heap.size 3 1 (.slice A' (putL x l).length c') (putL x l).length ((putL x l).map (Value.int .i64))) ∧ Below w.heap.size w w' := by
  obtain ⟨i1, hi1, hy0, hy1, hy2⟩ := info_parts hints_info
  obtain ⟨hnc, hcm, hA0, hAs⟩ : n ≤ c ∧ c ≤ 9223372036854775807 ∧ (A = none → n = 0 ∧ c = 0) ∧ ∀ a, A = some a → a = ⟨a.block, 0, none⟩ := by
    rcases hrow.2 with ⟨h, h2⟩ | ⟨g, cap, cur, h, _, _, h1, h2, _⟩
    · injection h with h1 _ h3
      subst h1 h3
      exact ⟨by omega, by omega, fun _ => ⟨h2, rfl⟩, fun _ h => by cases h⟩
    · injection h with h3 _ h4
      subst h3 h4
      exact ⟨h1, by simpa [maxLen] using h2, (fun h => by cases h), fun a h => by cases h; rfl⟩
  have hx : Ints w w.heap.size A l := by rw [← hn] at hrow; exact row_ints hrow
  have HX := Lib.hid hx
  have HN := Lib.hid hn
  have HA0 := Lib.hid hA0
  have HAS := Lib.hid hAs
  have HI := Lib.hid hi1
  clear hx hn hrow hA0 hAs hi1
  have hnI : (n : Int) ≤ 1000000 := by omega
  have HTAKE : Hid (∀ (k : Nat) (w' : World), Below w.heap.size w w' → ∀ a, A = some a → ∀ (j : Nat) (y : Int), (l.take k)[j]? = some y → w'.cell? (a.add j) = some (.int .i64 y)) := Lib.hid (fun k w' hw a ha j y hy => by
    have hj : l[j]? = some y := by
      rw [List.getElem?_take] at hy
      split at hy
      · exact hy
      · cases hy
    have hl : 0 < l.length := by
      cases l with
      | nil => cases hj
      | cons _ _ => simp
    obtain ⟨b, off, e, hbb, hc⟩ := HX.out hl
    rw [ha] at e
    injection e with e
    subst e
    rw [Go.WideShapes.add_plain]
    rw [hw.cell (p := ⟨b, off + j, none⟩) hbb]
    exact hc j y hj)
  have HDROP : Hid (∀ (k : Nat) (w' : World), Below w.heap.size w w' → ∀ a, (if c = k then A else Option.map (fun a : Addr => a.add (k * 1)) A) = some a → ∀ (j : Nat) (y : Int), (l.drop k)[j]? = some y → w'.cell? (a.add j) = some (.int .i64 y)) := Lib.hid (fun k w' hw a ha j y hy => by
    rw [List.getElem?_drop] at hy
    have hkl : k + j < l.length := by
      rcases Nat.lt_or_ge (k + j) l.length with h | h
      · exact h
      · rw [List.getElem?_eq_none h] at hy; cases hy
    obtain ⟨b, off, e, hbb, hc⟩ := HX.out (by omega)
    rw [if_neg (by have := HN.out; omega), e] at ha
    injection ha with ha
    subst ha
    simp only [Go.WideShapes.add_plain]
    rw [hw.cell (p := ⟨b, off + k * 1 + j, none⟩) hbb, show off + k * 1 + j = off + (k + j) by omega]
    exact hc _ y hy)
  have HC : Hid (∀ (j : Nat) (y : Int), l[j]? = some y → ∃ b off, A = some ⟨b, off, none⟩ ∧ w.cell? ⟨b, off + j, none⟩ = some (.int .i64 y)) := Lib.hid (fun j y hy => by
    have hl : 0 < l.length := by
      cases l with
      | nil => cases hy
      | cons _ _ => simp
    obtain ⟨b, off, e, hbb, hc⟩ := HX.out hl
    exact ⟨b, off, e, hc j y hy⟩)
  go_enter Tryz.func14, Tryz.ntmps14
  go_wp2_with fail
  go_loopw [5] (fun i wr => ∃ (j : Nat), j ≤ n ∧ i = .int .i64 j ∧ (∀ y ∈ l.take j, y < x) ∧ w = wr) (fun i _ => n - (intOf i).toNat)
  case atStart => exact ⟨0, Nat.zero_le _, rfl, (fun y hy => by simp at hy), rfl⟩
  case round =>
    obtain ⟨k, hk, rfl, hless, rfl⟩ := hrel
    have HLESS := Lib.hid hless
    clear hless
    have hkc : (k : Int) ≤ (c : Int) := by omega
    have hkn : (k : Int) ≤ (n : Int) := by omega
    by_cases hlt : k < n
    · have hkl : k < l.length := by rw [HN.out]; exact hlt
      obtain ⟨z, hz⟩ : ∃ z, z = l[k] := ⟨_, rfl⟩
      have hzk : l[k]? = some z := by rw [hz]; exact List.getElem?_eq_getElem hkl
      obtain ⟨b, off, hA, hcz⟩ := HC.out k z hzk
      have hltI : (k : Int) < (n : Int) := by omega
      have HZK := Lib.hid hzk
      have HKL := Lib.hid hkl
      clear hzk hz hkl
      have HA := Lib.hid hA
      by_cases hzx : z < x
      · subst hA
        go_wp2_with fail
        go_roundw
        case rel => exact ⟨k + 1, by omega, by go_num, fun y hy => by
          rw [List.take_add_one, HZK.out, List.mem_append] at hy
          rcases hy with hy | hy
          · exact HLESS.out y hy
          · simp at hy; rw [hy]; exact hzx, trivial⟩
        case measure => simp [intOf]; omega
      · have hxz : x ≤ z := by omega
        by_cases hez : z = x
        · have HP : Hid (putL x l = l) := Lib.hid (by
            rw [putL_take x l k HLESS.out, List.drop_eq_getElem_cons HKL.out]
            have : l[k]'HKL.out = z := by have := HZK.out; rw [List.getElem?_eq_getElem HKL.out] at this; exact Option.some.inj this
            rw [this]
            simp only [putL, if_neg hzx, if_pos hez]
            rw [← this, ← List.drop_eq_getElem_cons HKL.out, List.take_append_drop])
          subst hA
          go_wp2_with fail
          go_ret
          refine ⟨some ⟨b, off, none⟩, c, ?_, ?_, Below.refl _ _⟩
          · rw [HP.out, HN.out]; rfl
          · exact .inl ⟨rfl, rfl, HP.out⟩
        · have HP : Hid (putL x l = l.take k ++ (x :: l.drop k)) := Lib.hid (by
            rw [putL_take x l k HLESS.out, List.drop_eq_getElem_cons HKL.out]
            have : l[k]'HKL.out = z := by have := HZK.out; rw [List.getElem?_eq_getElem HKL.out] at this; exact Option.some.inj this
            rw [this]
            simp only [putL, if_neg hzx, if_neg hez])
          subst hA
          go_upto_region 6 with fail
          have HNIL : Hid (some (⟨b, off, none⟩ : Addr) = none → k = 0 ∧ c = 0) := Lib.hid (fun h => by cases h)
          have HNIL2 : Hid ((if c = k then some (⟨b, off, none⟩ : Addr) else Option.map (fun a : Addr => a.add (k * 1)) (some (⟨b, off, none⟩ : Addr))) = none → n - k = 0 ∧ c - k = 0) := Lib.hid (fun h => by split at h <;> cases h)
          obtain ⟨V, hV⟩ : ∃ V, V = putV (some ⟨b, off, none⟩) n c k x := ⟨_, rfl⟩
          have HV : Hid (V = putV (some ⟨b, off, none⟩) n c k x) := Lib.hid hV
          clear hV
          have HLEN : Hid ((l.take k).length = k ∧ (l.drop k).length = n - k) := Lib.hid (by
            constructor
            · rw [List.length_take, HN.out]; omega
            · rw [List.length_drop, HN.out])
          refine wp_region_phase 33 11 43 1 (PuJ w V k n x (l.take k) (putL x l)) (by kernel_rfl) (by kernel_rfl) rfl (by omega) (by kernel_rfl) rfl (by simp) (PuJ.start _ _ _ _ _ _ _) ?hops ?hrest
          case hops =>
            intro o ho L f y w' hF hLo hJ hw hy
            have HJ := Lib.hid hJ
            have HW := Lib.hid hw
            have HY := Lib.hid hy
            clear hJ hw hy
            have HVAL : Hid (∀ j v, j < 11 → j ∈ waitsFor .any _ o → V j = some v → y.tmps[33 + j]?.getD undef = v) := Lib.hid (fun j v hj hjw hv => (HY.out j hj (HW.out j hjw)).trans (HJ.out.vals j v (HW.out j hjw) hv))
            rcases (show o = 0 ∨ o = 1 ∨ o = 2 ∨ o = 3 ∨ o = 4 ∨ o = 5 ∨ o = 6 ∨ o = 7 ∨ o = 8 ∨ o = 9 ∨ o = 10 by omega) with rfl | rfl | rfl | rfl | rfl | rfl | rfl | rfl | rfl | rfl | rfl
            · have t0 : y.tmps[0]?.getD undef = .slice (some ⟨b, off, none⟩) n c := by rw [hF.2.2 0 (by omega)]; rfl
              clear hF
              refine wpOp_value (v := .slice (some ⟨b, off, none⟩) n c) (w' := w') rfl rfl ?_ ⟨_, rfl, HJ.out.val (by decide) (by decide) (by decide) (by decide) (by rw [HV.out]; rfl)⟩
              go_simp
            · have t0 : y.tmps[5]?.getD undef = .int .i64 k := by rw [hF.2.2 5 (by omega)]; rfl
              clear hF
              refine wpOp_value (v := .int .i64 k) (w' := w') rfl rfl ?_ ⟨_, rfl, HJ.out.val (by decide) (by decide) (by decide) (by decide) (by rw [HV.out]; rfl)⟩
              go_simp
            · have t0 : y.tmps[33]?.getD undef = .slice (some ⟨b, off, none⟩) n c := HVAL.out 0 _ (by omega) (of_decide_eq_true (by kernel_rfl)) (by rw [HV.out]; rfl)
              have t1 : y.tmps[34]?.getD undef = .int .i64 k := HVAL.out 1 _ (by omega) (of_decide_eq_true (by kernel_rfl)) (by rw [HV.out]; rfl)
              clear hF
              refine wpOp_value (v := .slice (some ⟨b, off, none⟩) k c) (w' := w') rfl rfl ?_ ⟨_, rfl, HJ.out.val (by decide) (by decide) (by decide) (by decide) (by rw [HV.out]; rfl)⟩
              go_simp
            · have t0 : y.tmps[35]?.getD undef = .slice (some ⟨b, off, none⟩) k c := HVAL.out 2 _ (by omega) (of_decide_eq_true (by kernel_rfl)) (by rw [HV.out]; rfl)
              have kk := HJ.out
              have l6 : L 6 = false := by
                cases h : L 6 with
                | false => rfl
                | true => rw [(kk.c6 h).1] at hLo; cases hLo
              have l10 : L 10 = false := by
                cases h : L 10 with
                | false => rfl
                | true => rw [kk.c10 h] at l6; cases l6
              obtain ⟨v', w'', hrun, hown, hbel, hgr⟩ := append_part (w := w') (B := w'.heap.size) HI.out hy0 hy1 hy2 (.slice none 0 0) 0 [] (World.ownsRow_nil _ _ _ _) (some ⟨b, off, none⟩) k c (l.take k) HLEN.out.1 (fun h => HNIL.out h) (HTAKE.out k w' kk.below) (by omega) (Nat.le_refl _)
              clear hF
              refine wpOp_value (v := v') (w' := w'') rfl rfl (exec_append rfl rfl (by simpa [Act.eval] using t0) hrun) ⟨_, rfl, ?_⟩
              rw [Nat.zero_add, List.nil_append] at hown
              refine ⟨fun j u hj hu => ?_, fun _ _ => row_lower hown kk.below.size, fun h5 h6 => ?_, (fun h => by rw [show L 6 = true from h] at l6; cases l6), (fun h => by rw [show L 10 = true from h] at l10; cases l10), (fun h => by rw [show L 6 = true from h] at l6; cases l6), kk.c10, kk.below.trans (hbel.mono kk.below.size)⟩
              · by_cases e : 3 = j
                · subst e; rw [HV.out] at hu; cases hu
                · simp only [if_neg e] at hj ⊢; exact kk.vals j u hj hu
              · obtain ⟨b5, e5, hb5, hs5, _⟩ := kk.r5 h5 l6
                exact ⟨b5, e5, hb5.below hbel hb5.lt, hs5, fun _ e => by have := (hown.lt _ e).1; have := hb5.lt; omega⟩
            · have t0 : y.tmps[1]?.getD undef = .int .i64 x := by rw [hF.2.2 1 (by omega)]; rfl
              clear hF
              refine wpOp_value (v := .int .i64 x) (w' := w') rfl rfl ?_ ⟨_, rfl, HJ.out.val (by decide) (by decide) (by decide) (by decide) (by rw [HV.out]; rfl)⟩
              go_simp
            · have t0 : y.tmps[37]?.getD undef = .int .i64 x := HVAL.out 4 _ (by omega) (of_decide_eq_true (by kernel_rfl)) (by rw [HV.out]; rfl)
              clear hF
              refine wpOp_value (v := .slice (some ⟨w'.heap.size, 0, none⟩) 1 1) (w' := w'.alloc (.cells #[.int .i64 x] 3)) rfl rfl ?_ ⟨_, rfl, ?_⟩
              · go_simp
              · have kk := HJ.out
                have l6 : L 6 = false := by
                  cases h : L 6 with
                  | false => rfl
                  | true => rw [(kk.c6 h).2] at hLo; cases hLo
                have l10 : L 10 = false := by
                  cases h : L 10 with
                  | false => rfl
                  | true => rw [kk.c10 h] at l6; cases l6
                have hba : ∀ b, b < w'.heap.size → (w'.alloc (.cells #[.int .i64 x] 3)).heap[b]? = w'.heap[b]? := fun b hb => Below.heap_alloc _ _ _ hb
                refine ⟨fun j u hj hu => ?_, fun h3 _ => row_kept' (kk.r3 h3 l6) fun q hq => hba q ((kk.r3 h3 l6).lt q hq).2, fun _ _ => ⟨_, rfl, Blk.new _ _ _, kk.below.size, fun h3 e => by have := ((kk.r3 h3 l6).lt _ e).2; omega⟩, (fun h => by rw [show L 6 = true from h] at l6; cases l6), (fun h => by rw [show L 10 = true from h] at l10; cases l10), (fun h => by rw [show L 6 = true from h] at l6; cases l6), kk.c10, kk.below.alloc kk.below.size _⟩
                by_cases e : 5 = j
                · subst e; rw [HV.out] at hu; cases hu
                · simp only [if_neg e] at hj ⊢; exact kk.vals j u hj hu
            · have l3 : L 3 = true := HW.out 3 (of_decide_eq_true (by kernel_rfl))
              have l5 : L 5 = true := HW.out 5 (of_decide_eq_true (by kernel_rfl))
              have kk := HJ.out
              obtain ⟨b5, e5, hb5, hs5, hn5⟩ := kk.r5 l5 hLo
              have hr3 := kk.r3 l3 hLo
              have t1 : y.tmps[36]?.getD undef = f 3 := HY.out 3 (by omega) l3
              have t2 : y.tmps[38]?.getD undef = .slice (some ⟨b5, 0, none⟩) 1 1 := (HY.out 5 (by omega) l5).trans e5
              have l10 : L 10 = false := by
                cases h : L 10 with
                | false => rfl
                | true => rw [kk.c10 h] at hLo; cases hLo
              obtain ⟨v', w'', hrun, hown, hbel, hgr⟩ := append_part (w := w') (B := w.heap.size) HI.out hy0 hy1 hy2 (f 3) k _ hr3 (some ⟨b5, 0, none⟩) 1 1 [x] rfl (fun h => by cases h) (fun a ha j u hu => by
                cases ha
                match j, hu with
                | 0, hu =>
                  injection hu with hu
                  subst hu
                  rw [Go.WideShapes.add_plain]
                  exact hb5.cell 0) (by omega) kk.below.size
              clear hF
              refine wpOp_value (v := v') (w' := w'') rfl rfl (exec_append rfl (by simpa [Act.eval] using t1) (by simpa [Act.eval] using t2) hrun) ⟨_, rfl, ?_⟩
              refine ⟨fun j u hj hu => ?_, fun _ h => (by cases h), fun _ h => (by cases h), fun _ _ => ?_, (fun h => by rw [show L 10 = true from h] at l10; cases l10), fun _ => ⟨l3, l5⟩, fun _ => rfl, kk.below.trans hbel⟩
              · by_cases e : 6 = j
                · subst e; rw [HV.out] at hu; cases hu
                · simp only [if_neg e] at hj ⊢; exact kk.vals j u hj hu
              · rw [List.map_append]
                exact hown
            · have t0 : y.tmps[0]?.getD undef = .slice (some ⟨b, off, none⟩) n c := by rw [hF.2.2 0 (by omega)]; rfl
              clear hF
              refine wpOp_value (v := .slice (some ⟨b, off, none⟩) n c) (w' := w') rfl rfl ?_ ⟨_, rfl, HJ.out.val (by decide) (by decide) (by decide) (by decide) (by rw [HV.out]; rfl)⟩
              go_simp
            · have t0 : y.tmps[5]?.getD undef = .int .i64 k := by rw [hF.2.2 5 (by omega)]; rfl
              clear hF
              refine wpOp_value (v := .int .i64 k) (w' := w') rfl rfl ?_ ⟨_, rfl, HJ.out.val (by decide) (by decide) (by decide) (by decide) (by rw [HV.out]; rfl)⟩
              go_simp
            · have t0 : y.tmps[40]?.getD undef = .slice (some ⟨b, off, none⟩) n c := HVAL.out 7 _ (by omega) (of_decide_eq_true (by kernel_rfl)) (by rw [HV.out]; rfl)
              have t1 : y.tmps[41]?.getD undef = .int .i64 k := HVAL.out 8 _ (by omega) (of_decide_eq_true (by kernel_rfl)) (by rw [HV.out]; rfl)
              clear hF
              refine wpOp_value (v := sliced (some ⟨b, off, none⟩) k n c 1) (w' := w') rfl rfl ?_ ⟨_, rfl, HJ.out.val (by decide) (by decide) (by decide) (by decide) (by rw [HV.out]; rfl)⟩
              go_simp
            · have l6 : L 6 = true := HW.out 6 (of_decide_eq_true (by kernel_rfl))
              have kk := HJ.out
              have hr6 := kk.r6 l6 hLo
              have t1 : y.tmps[39]?.getD undef = f 6 := HY.out 6 (by omega) l6
              have t2 : y.tmps[42]?.getD undef = sliced (some ⟨b, off, none⟩) k n c 1 := HVAL.out 9 _ (by omega) (of_decide_eq_true (by kernel_rfl)) (by rw [HV.out]; rfl)
              obtain ⟨v', w'', hrun, hown, hbel, hgr⟩ := append_part (w := w') (B := w.heap.size) HI.out hy0 hy1 hy2 (f 6) (k + 1) _ hr6 (if c = k then (some ⟨b, off, none⟩) else Option.map (fun a : Addr => a.add (k * 1)) (some ⟨b, off, none⟩)) (n - k) (c - k) (l.drop k) HLEN.out.2 (fun h => HNIL2.out h) (HDROP.out k w' kk.below) (by omega) kk.below.size
              clear hF
              refine wpOp_value (v := v') (w' := w'') rfl rfl (exec_append rfl (by simpa [Act.eval] using t1) (by simpa [Act.eval, sliced] using t2) hrun) ⟨_, rfl, ?_⟩
              refine ⟨fun j u hj hu => ?_, fun _ h => ?_, fun _ h => ?_, fun _ h => (by cases h), fun _ => ?_, kk.c6, fun _ => l6, kk.below.trans hbel⟩
              · by_cases e : 10 = j
                · subst e; rw [HV.out] at hu; cases hu
                · simp only [if_neg e] at hj ⊢; exact kk.vals j u hj hu
              · rw [show L 6 = false from h] at l6; cases l6
              · rw [show L 6 = false from h] at l6; cases l6
              · rw [← List.map_append, List.append_assoc] at hown
                rw [show k + 1 + (n - k) = n + 1 by omega] at hown
                rw [HP.out]
                exact hown
          case hrest =>
            intro L f w' hL hJ
            have h10 := hJ.r10 (hL 10 (by omega))
            have hbel := hJ.below
            have HR10 := Lib.hid h10
            have HBEL := Lib.hid hbel
            obtain ⟨F, hF⟩ : ∃ F, F = f 10 := ⟨_, rfl⟩
            obtain ⟨pA, pc, hFs⟩ : ∃ p cap, F = .slice p (n + 1) cap := by
              rw [hF]
              rcases h10.2 with ⟨_, h⟩ | ⟨g, cap, cur, h, _⟩
              · omega
              · exact ⟨_, _, h⟩
            rw [← hF, hFs] at h10
            have HR := Lib.hid h10
            have hf : f 10 = .slice pA (n + 1) pc := by rw [← hF, hFs]
            clear hJ hL h10 hbel HR10 hF hFs
            rw [show List.range' 11 1 = [11] from rfl]
            simp only [putAll, List.range, List.range.loop, List.foldl, Nat.reduceAdd, List.setIfInBounds_toArray, List.set_cons_succ, List.set_cons_zero, hf]
            clear hf
            rw [wpOps_cons]
            refine wpOp_value (v := .slice pA (n + 1) pc) (w' := w') rfl rfl (by go_simp) ?_
            change wpOps _ _ _ [] (Act.put _ (some 4) (.slice pA (n + 1) pc)) _
            simp only [wpOps, Act.put, List.setIfInBounds_toArray, List.set_cons_succ, List.set_cons_zero]
            go_wp2_with fail
            go_ret
            have HPL : (putL x l).length = n + 1 := by rw [HP.out, List.length_append, List.length_cons, HLEN.out.1, HLEN.out.2]; omega
            refine ⟨pA, pc, ?_, ?_, HBEL.out⟩
            · rw [HPL]; rfl
            · rw [HPL]; exact .inr HR.out
    · obtain rfl : k = n := by omega
      have HP : Hid (putL x l = l.take k ++ (x :: l.drop k)) := Lib.hid (by
        rw [putL_take x l k HLESS.out, List.drop_of_length_le (by rw [HN.out]; exact Nat.le_refl _)]
        rfl)
      go_upto_region 6 with fail
      have HNIL : Hid (A = none → k = 0 ∧ c = 0) := Lib.hid (fun h => HA0.out h)
      have HNIL2 : Hid ((if c = k then A else Option.map (fun a : Addr => a.add (k * 1)) A) = none → k - k = 0 ∧ c - k = 0) := Lib.hid (fun h => by
        have hA : A = none := by
          split at h
          · exact h
          · simpa using h
        have := HA0.out hA
        omega)
      obtain ⟨V, hV⟩ : ∃ V, V = putV A k c k x := ⟨_, rfl⟩
      have HV : Hid (V = putV A k c k x) := Lib.hid hV
      clear hV
      have HLEN : Hid ((l.take k).length = k ∧ (l.drop k).length = k - k) := Lib.hid (by
        constructor
        · rw [List.length_take, HN.out]; omega
        · rw [List.length_drop, HN.out])
      refine wp_region_phase 33 11 43 1 (PuJ w V k k x (l.take k) (putL x l)) (by kernel_rfl) (by kernel_rfl) rfl (by omega) (by kernel_rfl) rfl (by simp) (PuJ.start _ _ _ _ _ _ _) ?hops ?hrest
      case hops =>
        intro o ho L f y w' hF hLo hJ hw hy
        have HJ := Lib.hid hJ
        have HW := Lib.hid hw
        have HY := Lib.hid hy
        clear hJ hw hy
        have HVAL : Hid (∀ j v, j < 11 → j ∈ waitsFor .any _ o → V j = some v → y.tmps[33 + j]?.getD undef = v) := Lib.hid (fun j v hj hjw hv => (HY.out j hj (HW.out j hjw)).trans (HJ.out.vals j v (HW.out j hjw) hv))
        rcases (show o = 0 ∨ o = 1 ∨ o = 2 ∨ o = 3 ∨ o = 4 ∨ o = 5 ∨ o = 6 ∨ o = 7 ∨ o = 8 ∨ o = 9 ∨ o = 10 by omega) with rfl | rfl | rfl | rfl | rfl | rfl | rfl | rfl | rfl | rfl | rfl
        · have t0 : y.tmps[0]?.getD undef = .slice A k c := by rw [hF.2.2 0 (by omega)]; rfl
          clear hF
          refine wpOp_value (v := .slice A k c) (w' := w') rfl rfl ?_ ⟨_, rfl, HJ.out.val (by decide) (by decide) (by decide) (by decide) (by rw [HV.out]; rfl)⟩
          go_simp
        · have t0 : y.tmps[5]?.getD undef = .int .i64 k := by rw [hF.2.2 5 (by omega)]; rfl
          clear hF
          refine wpOp_value (v := .int .i64 k) (w' := w') rfl rfl ?_ ⟨_, rfl, HJ.out.val (by decide) (by decide) (by decide) (by decide) (by rw [HV.out]; rfl)⟩
          go_simp
        · have t0 : y.tmps[33]?.getD undef = .slice A k c := HVAL.out 0 _ (by omega) (of_decide_eq_true (by kernel_rfl)) (by rw [HV.out]; rfl)
          have t1 : y.tmps[34]?.getD undef = .int .i64 k := HVAL.out 1 _ (by omega) (of_decide_eq_true (by kernel_rfl)) (by rw [HV.out]; rfl)
          clear hF
          refine wpOp_value (v := .slice A k c) (w' := w') rfl rfl ?_ ⟨_, rfl, HJ.out.val (by decide) (by decide) (by decide) (by decide) (by rw [HV.out]; rfl)⟩
          go_simp
        · have t0 : y.tmps[35]?.getD undef = .slice A k c := HVAL.out 2 _ (by omega) (of_decide_eq_true (by kernel_rfl)) (by rw [HV.out]; rfl)
          have kk := HJ.out
          have l6 : L 6 = false := by
            cases h : L 6 with
            | false => rfl
            | true => rw [(kk.c6 h).1] at hLo; cases hLo
          have l10 : L 10 = false := by
            cases h : L 10 with
            | false => rfl
            | true => rw [kk.c10 h] at l6; cases l6
          obtain ⟨v', w'', hrun, hown, hbel, hgr⟩ := append_part (w := w') (B := w'.heap.size) HI.out hy0 hy1 hy2 (.slice none 0 0) 0 [] (World.ownsRow_nil _ _ _ _) A k c (l.take k) HLEN.out.1 (fun h => HNIL.out h) (HTAKE.out k w' kk.below) (by omega) (Nat.le_refl _)
          clear hF
          refine wpOp_value (v := v') (w' := w'') rfl rfl (exec_append rfl rfl (by simpa [Act.eval] using t0) hrun) ⟨_, rfl, ?_⟩
          rw [Nat.zero_add, List.nil_append] at hown
          refine ⟨fun j u hj hu => ?_, fun _ _ => row_lower hown kk.below.size, fun h5 h6 => ?_, (fun h => by rw [show L 6 = true from h] at l6; cases l6), (fun h => by rw [show L 10 = true from h] at l10; cases l10), (fun h => by rw [show L 6 = true from h] at l6; cases l6), kk.c10, kk.below.trans (hbel.mono kk.below.size)⟩
          · by_cases e : 3 = j
            · subst e; rw [HV.out] at hu; cases hu
            · simp only [if_neg e] at hj ⊢; exact kk.vals j u hj hu
          · obtain ⟨b5, e5, hb5, hs5, _⟩ := kk.r5 h5 l6
            exact ⟨b5, e5, hb5.below hbel hb5.lt, hs5, fun _ e => by have := (hown.lt _ e).1; have := hb5.lt; omega⟩
        · have t0 : y.tmps[1]?.getD undef = .int .i64 x := by rw [hF.2.2 1 (by omega)]; rfl
          clear hF
          refine wpOp_value (v := .int .i64 x) (w' := w') rfl rfl ?_ ⟨_, rfl, HJ.out.val (by decide) (by decide) (by decide) (by decide) (by rw [HV.out]; rfl)⟩
          go_simp
        · have t0 : y.tmps[37]?.getD undef = .int .i64 x := HVAL.out 4 _ (by omega) (of_decide_eq_true (by kernel_rfl)) (by rw [HV.out]; rfl)
          clear hF
          refine wpOp_value (v := .slice (some ⟨w'.heap.size, 0, none⟩) 1 1) (w' := w'.alloc (.cells #[.int .i64 x] 3)) rfl rfl ?_ ⟨_, rfl, ?_⟩
          · go_simp
          · have kk := HJ.out
            have l6 : L 6 = false := by
              cases h : L 6 with
              | false => rfl
              | true => rw [(kk.c6 h).2] at hLo; cases hLo
            have l10 : L 10 = false := by
              cases h : L 10 with
              | false => rfl
              | true => rw [kk.c10 h] at l6; cases l6
            have hba : ∀ b, b < w'.heap.size → (w'.alloc (.cells #[.int .i64 x] 3)).heap[b]? = w'.heap[b]? := fun b hb => Below.heap_alloc _ _ _ hb
            refine ⟨fun j u hj hu => ?_, fun h3 _ => row_kept' (kk.r3 h3 l6) fun q hq => hba q ((kk.r3 h3 l6).lt q hq).2, fun _ _ => ⟨_, rfl, Blk.new _ _ _, kk.below.size, fun h3 e => by have := ((kk.r3 h3 l6).lt _ e).2; omega⟩, (fun h => by rw [show L 6 = true from h] at l6; cases l6), (fun h => by rw [show L 10 = true from h] at l10; cases l10), (fun h => by rw [show L 6 = true from h] at l6; cases l6), kk.c10, kk.below.alloc kk.below.size _⟩
            by_cases e : 5 = j
            · subst e; rw [HV.out] at hu; cases hu
            · simp only [if_neg e] at hj ⊢; exact kk.vals j u hj hu
        · have l3 : L 3 = true := HW.out 3 (of_decide_eq_true (by kernel_rfl))
          have l5 : L 5 = true := HW.out 5 (of_decide_eq_true (by kernel_rfl))
          have kk := HJ.out
          obtain ⟨b5, e5, hb5, hs5, hn5⟩ := kk.r5 l5 hLo
          have hr3 := kk.r3 l3 hLo
          have t1 : y.tmps[36]?.getD undef = f 3 := HY.out 3 (by omega) l3
          have t2 : y.tmps[38]?.getD undef = .slice (some ⟨b5, 0, none⟩) 1 1 := (HY.out 5 (by omega) l5).trans e5
          have l10 : L 10 = false := by
            cases h : L 10 with
            | false => rfl
            | true => rw [kk.c10 h] at hLo; cases hLo
          obtain ⟨v', w'', hrun, hown, hbel, hgr⟩ := append_part (w := w') (B := w.heap.size) HI.out hy0 hy1 hy2 (f 3) k _ hr3 (some ⟨b5, 0, none⟩) 1 1 [x] rfl (fun h => by cases h) (fun a ha j u hu => by
            cases ha
            match j, hu with
            | 0, hu =>
              injection hu with hu
              subst hu
              rw [Go.WideShapes.add_plain]
              exact hb5.cell 0) (by omega) kk.below.size
          clear hF
          refine wpOp_value (v := v') (w' := w'') rfl rfl (exec_append rfl (by simpa [Act.eval] using t1) (by simpa [Act.eval] using t2) hrun) ⟨_, rfl, ?_⟩
          refine ⟨fun j u hj hu => ?_, fun _ h => (by cases h), fun _ h => (by cases h), fun _ _ => ?_, (fun h => by rw [show L 10 = true from h] at l10; cases l10), fun _ => ⟨l3, l5⟩, fun _ => rfl, kk.below.trans hbel⟩
          · by_cases e : 6 = j
            · subst e; rw [HV.out] at hu; cases hu
            · simp only [if_neg e] at hj ⊢; exact kk.vals j u hj hu
          · rw [List.map_append]
            exact hown
        · have t0 : y.tmps[0]?.getD undef = .slice A k c := by rw [hF.2.2 0 (by omega)]; rfl
          clear hF
          refine wpOp_value (v := .slice A k c) (w' := w') rfl rfl ?_ ⟨_, rfl, HJ.out.val (by decide) (by decide) (by decide) (by decide) (by rw [HV.out]; rfl)⟩
          go_simp
        · have t0 : y.tmps[5]?.getD undef = .int .i64 k := by rw [hF.2.2 5 (by omega)]; rfl
          clear hF
          refine wpOp_value (v := .int .i64 k) (w' := w') rfl rfl ?_ ⟨_, rfl, HJ.out.val (by decide) (by decide) (by decide) (by decide) (by rw [HV.out]; rfl)⟩
          go_simp
        · have t0 : y.tmps[40]?.getD undef = .slice A k c := HVAL.out 7 _ (by omega) (of_decide_eq_true (by kernel_rfl)) (by rw [HV.out]; rfl)
          have t1 : y.tmps[41]?.getD undef = .int .i64 k := HVAL.out 8 _ (by omega) (of_decide_eq_true (by kernel_rfl)) (by rw [HV.out]; rfl)
          clear hF
          refine wpOp_value (v := sliced A k k c 1) (w' := w') rfl rfl ?_ ⟨_, rfl, HJ.out.val (by decide) (by decide) (by decide) (by decide) (by rw [HV.out]; rfl)⟩
          go_simp
        · have l6 : L 6 = true := HW.out 6 (of_decide_eq_true (by kernel_rfl))
          have kk := HJ.out
          have hr6 := kk.r6 l6 hLo
          have t1 : y.tmps[39]?.getD undef = f 6 := HY.out 6 (by omega) l6
          have t2 : y.tmps[42]?.getD undef = sliced A k k c 1 := HVAL.out 9 _ (by omega) (of_decide_eq_true (by kernel_rfl)) (by rw [HV.out]; rfl)
          obtain ⟨v', w'', hrun, hown, hbel, hgr⟩ := append_part (w := w') (B := w.heap.size) HI.out hy0 hy1 hy2 (f 6) (k + 1) _ hr6 (if c = k then A else Option.map (fun a : Addr => a.add (k * 1)) A) (k - k) (c - k) (l.drop k) HLEN.out.2 (fun h => HNIL2.out h) (HDROP.out k w' kk.below) (by omega) kk.below.size
          clear hF
          refine wpOp_value (v := v') (w' := w'') rfl rfl (exec_append rfl (by simpa [Act.eval] using t1) (by simpa [Act.eval, sliced] using t2) hrun) ⟨_, rfl, ?_⟩
          refine ⟨fun j u hj hu => ?_, fun _ h => ?_, fun _ h => ?_, fun _ h => (by cases h), fun _ => ?_, kk.c6, fun _ => l6, kk.below.trans hbel⟩
          · by_cases e : 10 = j
            · subst e; rw [HV.out] at hu; cases hu
            · simp only [if_neg e] at hj ⊢; exact kk.vals j u hj hu
          · rw [show L 6 = false from h] at l6; cases l6
          · rw [show L 6 = false from h] at l6; cases l6
          · rw [← List.map_append, List.append_assoc] at hown
            rw [show k + 1 + (k - k) = k + 1 by omega] at hown
            rw [HP.out]
            exact hown
      case hrest =>
        intro L f w' hL hJ
        have h10 := hJ.r10 (hL 10 (by omega))
        have hbel := hJ.below
        have HR10 := Lib.hid h10
        have HBEL := Lib.hid hbel
        obtain ⟨F, hF⟩ : ∃ F, F = f 10 := ⟨_, rfl⟩
        obtain ⟨pA, pc, hFs⟩ : ∃ p cap, F = .slice p (k + 1) cap := by
          rw [hF]
          rcases h10.2 with ⟨_, h⟩ | ⟨g, cap, cur, h, _⟩
          · omega
          · exact ⟨_, _, h⟩
        rw [← hF, hFs] at h10
        have HR := Lib.hid h10
        have hf : f 10 = .slice pA (k + 1) pc := by rw [← hF, hFs]
        clear hJ hL h10 hbel HR10 hF hFs
        rw [show List.range' 11 1 = [11] from rfl]
        simp only [putAll, List.range, List.range.loop, List.foldl, Nat.reduceAdd, List.setIfInBounds_toArray, List.set_cons_succ, List.set_cons_zero, hf]
        clear hf
        rw [wpOps_cons]
        refine wpOp_value (v := .slice pA (k + 1) pc) (w' := w') rfl rfl (by go_simp) ?_
        change wpOps _ _ _ [] (Act.put _ (some 4) (.slice pA (k + 1) pc)) _
        simp only [wpOps, Act.put, List.setIfInBounds_toArray, List.set_cons_succ, List.set_cons_zero]
        go_wp2_with fail
        go_ret
        have HPL : (putL x l).length = k + 1 := by rw [HP.out, List.length_append, List.length_cons, HLEN.out.1, HLEN.out.2]; omega
        refine ⟨pA, pc, ?_, ?_, HBEL.out⟩
        · rw [HPL]; rfl
        · rw [HPL]; exact .inr HR.out
end Go.Proofs.YtiagofgcinlnhaaGreatDoor
