/-
  An act on a disk, and on the document's: Crash. No statement is proved here.
-/
import Derived.Test.YtpepabggpappgaaPlayPure
namespace Go.Proofs.Ytpepabggpappgaa
open Go.RowKit

theorem wanted_yes {ops : Array Oper} {tmps : Array Value} {o : Oper} {j s : Nat} {b : Bool} (hg : o.guard = some (j, b)) (hd : (ops[j]?).bind (·.dst) = some s) (ht : tmps[s]?.getD undef = .bool b) : Region.wanted o (yielded ops tmps) = true := by
  have h1 : tmps[s]? = some (.bool b) := by
    cases h : tmps[s]? with
    | none => rw [h] at ht; cases ht
    | some v => rw [h] at ht; exact congrArg some ht
  unfold Region.wanted yielded
  simp [hg, hd, h1]
section
variable {P : Program} {ops : Array Oper} {Q : Exit → Act → World → Prop} {K : Act → World → Prop} {x : Act} {w w' : World} {o : Oper} {i : Nat}
theorem wpOp_value_g {v : Value} (hi : ops[i]? = some o) (hg : Region.wanted o (yielded ops x.tmps) = true) (hr : (execOp x.eval o).run P w = .ok (.value v) w') (hK : K (x.put o.dst v) w') : wpOp P ops Q i K x w := by
  unfold wpOp
  simp only [hi]
  rw [if_pos hg]
  refine .inl ?_
  unfold Oper.wp
  rw [hr]
  exact hK
theorem wpOp_call_g {f : FuncId} {args : Array Value} (hi : ops[i]? = some o) (hg : Region.wanted o (yielded ops x.tmps) = true) (hr : (execOp x.eval o).run P w = .ok (.enter f args) w) (hc : Calls P f args w fun e w' => ∃ v, e = .returned v ∧ K (x.put o.dst v) w') : wpOp P ops Q i K x w := by
  unfold wpOp
  simp only [hi]
  rw [if_pos hg]
  refine .inl ?_
  unfold Oper.wp
  rw [hr]
  exact hc.mono fun e w'' ⟨v, he, hK⟩ => by subst he; exact hK
end

/-- Either may have gone already. -/
def Act3J (W : World) (B : Nat) (O P : List Nat) (g p : Nat) (S : DS) (l : List Int) (L : Nat → Bool) (w' : World) : Prop :=
  ∃ O' P', Two w' B O' P' g p (if L 2 = true then S.crash l else S) (if L 6 = true then S.crash l else S) ∧ (∀ b ∈ O' ++ P', b ∈ O ++ P ∨ W.heap.size ≤ b) ∧ Keep (O ++ P) W w'
theorem act3_keep {W : World} {B : Nat} {O P : List Nat} {g p : Nat} {S : DS} {l : List Int} {L : Nat → Bool} {w' : World} {o : Nat} (ho : o ≠ 2 ∧ o ≠ 6) (h : Act3J W B O P g p S l L w') : Act3J W B O P g p S l (fun j => if o = j then true else L j) w' := by
  obtain ⟨O', P', h1, h2, h3⟩ := h
  refine ⟨O', P', ?_, h2, h3⟩
  have e2 : (if o = 2 then true else L 2) = L 2 := if_neg ho.1
  have e6 : (if o = 6 then true else L 6) = L 6 := if_neg ho.2
  show Two w' B O' P' g p (if (if o = 2 then true else L 2) = true then S.crash l else S) (if (if o = 6 then true else L 6) = true then S.crash l else S)
  rw [e2, e6]
  exact h1
theorem Two.crash_d {W w' w'' : World} {B : Nat} {O P : List Nat} {g p : Nat} {S : DS} {l : List Int} {L : Nat → Bool} {O' P' : List Nat} (h : Two w' B O' P' g p S (if L 6 = true then S.crash l else S)) (hO : ∀ b ∈ O' ++ P', b ∈ O ++ P ∨ W.heap.size ≤ b) (hk : Keep (O ++ P) W w') (ht : Turns O' g (S.crash l) w' w'') :
    Act3J W B O P g p S l (fun j => if 2 = j then true else L j) w'' := by
  obtain ⟨O2, k1, k2, k3⟩ := h.first ht
  refine ⟨O2, P', k1, fun b hb => ?_, hk.trans (O' := O' ++ P') (k3.mono (by intro b hb; exact .inl (by simp [hb]))) hO⟩
  rcases List.mem_append.1 hb with hb | hb
  · rcases k2 b hb with hb | hb
    · exact hO b (by simp [hb])
    · exact .inr (Nat.le_trans hk.size hb)
  · exact hO b (by simp [hb])
theorem Two.crash_p {W w' w'' : World} {B : Nat} {O P : List Nat} {g p : Nat} {S : DS} {l : List Int} {L : Nat → Bool} {O' P' : List Nat} (h : Two w' B O' P' g p (if L 2 = true then S.crash l else S) S) (hO : ∀ b ∈ O' ++ P', b ∈ O ++ P ∨ W.heap.size ≤ b) (hk : Keep (O ++ P) W w') (ht : TurnsP B P' p (S.crash l) w' w'') :
    Act3J W B O P g p S l (fun j => if 6 = j then true else L j) w'' := by
  obtain ⟨P2, k1, k2, k3⟩ := h.second ht
  refine ⟨O', P2, k1, fun b hb => ?_, hk.trans (O' := O' ++ P') (k3.mono (by intro b hb; exact .inl (by simp [hb]))) hO⟩
  rcases List.mem_append.1 hb with hb | hb
  · exact hO b (by simp [hb])
  · rcases k2 b hb with hb | hb
    · exact hO b (by simp [hb])
    · exact .inr (Nat.le_trans hk.size hb)

set_option maxRecDepth 100000 in
set_option maxHeartbeats 8000000 in
theorem act3_any {w : World} {B : Nat} {O P : List Nat} {g p k : Nat} {S : DS} (d : OpD) (hk : d.kind = 3) (h : Two w B O P g p S S) (hf : S.Fit k) (hd : d.In w B) (hl : d.light) :
    Calls Try.prog 10 #[.pointer (some ⟨g, 0, none⟩), .pointer (some ⟨p, 0, none⟩), .agg d.cells] w fun e w' => e = .returned (.bool true) ∧ PairTurns B (O ++ P) g p (S.crash d.l) w w' := by
  obtain ⟨kind, a, wa, wc, ws, own, la, lc, ls⟩ := d
  simp only at hk
  subst hk
  obtain ⟨-, -, hls, hln⟩ := hd
  obtain ⟨-, hl2, -⟩ := hl
  simp only at hls hln hl2
  unfold OpD.cells
  simp only
  obtain ⟨n, hn⟩ : ∃ n, n = ls.length := ⟨_, rfl⟩
  obtain ⟨lost, hlost⟩ : ∃ lost : Int, lost = (S.lost ls : Int) := ⟨_, rfl⟩
  have HLO := Lib.hid hlost
  have HA : Hid (∀ o : Obj, Two (w.alloc o) B O P g p S S ∧ Below w.heap.size w (w.alloc o)) := Lib.hid (fun o => ⟨h.below ((Below.refl _ _).alloc (Nat.le_refl _) _), (Below.refl _ _).alloc (Nat.le_refl _) _⟩)
  have HM : Hid (∀ b ∈ O ++ P, B ≤ b ∧ b < w.heap.size) := Lib.hid (fun b hb => h.mem hb)
  have HBW : Hid (B ≤ w.heap.size) := Lib.hid h.base
  have HLS := Lib.hid hls
  have HLN := Lib.hid hln
  have HN := Lib.hid hn
  have HL := Lib.hid hl2
  have HF := Lib.hid hf
  rw [← hn]
  clear h hf hls hln hl2 hn hlost
  go_enter Try.func10, Try.ntmps10
  go_wp2_with fail
  refine (ilent_any la n lc ls _ HN.out.symm ((HLS.out.keep (O := []) (Keep.of_below (HA.out _).2) (by simp)).ints) (by have := HL.out; have := HN.out; omega) (fun e => (HLN.out e).2)).mono ?_
  rintro e w1 ⟨gm, cap, rfl, hlent, hb1⟩
  have HLT := Lib.hid hlent
  have HB1 : Hid (Below w.heap.size w w1) := Lib.hid ((HA.out _).2.trans (hb1.mono (by simp)))
  have HT1 : Hid (Two w1 B O P g p S S) := Lib.hid ((HA.out _).1.below hb1)
  have HGM : Hid (w.heap.size < gm ∧ gm < w1.heap.size) := Lib.hid ⟨by have := hlent.1; simp at this; omega, hlent.2.1⟩
  have bx := (Blk.new w 34 #[.int .i64 3, .int .i64 a, .slice wa ws.length wc, .bool own, .slice la n lc]).below hb1 (by simp)
  have HBX := Lib.hid bx
  have HX : Hid (∀ w', Keep (O ++ P) w1 w' → w'.cell? ⟨w.heap.size, 4, none⟩ = some (.slice la n lc) ∧ Low w' B la ls ∧ LentI w' (w.alloc (.cells #[.int .i64 3, .int .i64 a, .slice wa ws.length wc, .bool own, .slice la n lc] 34)).heap.size gm cap ls) := Lib.hid (fun w' hk => by
    have b2 : Blk w' w.heap.size 34 #[.int .i64 3, .int .i64 a, .slice wa ws.length wc, .bool own, .slice la n lc] := (hk.block _ HBX.out.lt (fun hm => by have := (HM.out w.heap.size hm).2; omega)).trans HBX.out
    have z4 := b2.cell 4
    simp at z4
    exact ⟨z4, (HLS.out.keep (O := []) (Keep.of_below HB1.out) (by simp)).keep hk (fun b hb => (HM.out b hb).1), HLT.out.keep hk (fun hm => by have := (HM.out gm hm).2; have := HGM.out.1; omega)⟩)
  have HD3 : Hid (∀ (L : Nat → Bool) w', L 2 = false → Act3J w1 B O P g p S ls L w' → Calls Try.prog 15 #[.pointer (some ⟨g, 0, none⟩), .slice (some ⟨gm, 0, none⟩) n cap] w' fun e w'' => e = .returned (.int .i64 lost) ∧ Act3J w1 B O P g p S ls (fun j => if 2 = j then true else L j) w'') := Lib.hid (by
    rintro L w' h2 ⟨O', P', h, hO, hk⟩
    rw [h2, if_neg (by decide)] at h
    have hL := (HX.out w' hk).2.2
    rw [HLO.out]
    refine (dcrash_any (some ⟨gm, 0, none⟩) n cap ls h.d HF.out.ok HN.out.symm hL.ints (fun _ a e hm => ?_)).mono ?_
    · cases e
      rcases hO gm (by simp [show gm ∈ O' from hm]) with hm | hm
      · have := (HM.out gm hm).2; have := HGM.out.1; omega
      · have := HGM.out.2; omega
    · rintro e w'' ⟨rfl, ht⟩
      exact ⟨rfl, Two.crash_d h hO hk ht⟩)
  have HP3 : Hid (∀ (L : Nat → Bool) w', L 6 = false → Act3J w1 B O P g p S ls L w' → Calls Try.prog 32 #[.pointer (some ⟨p, 0, none⟩), .slice la n lc] w' fun e w'' => e = .returned (.int .i64 lost) ∧ Act3J w1 B O P g p S ls (fun j => if 6 = j then true else L j) w'') := Lib.hid (by
    rintro L w' h6 ⟨O', P', h, hO, hk⟩
    rw [h6] at h
    have h : Two w' B O' P' g p (if L 2 = true then S.crash ls else S) S := h
    rw [HLO.out]
    refine (pcrash_any la n lc ls h.p HF.out.ok HN.out.symm (HX.out w' hk).2.1 (by rw [← HF.out.ok.len]; exact ⟨HF.out.len.1, by have := HF.out.len.2; omega⟩)).mono ?_
    rintro e w'' ⟨rfl, ht⟩
    exact ⟨rfl, Two.crash_p h hO hk ht⟩)
  have HS3 : Hid (∀ (L : Nat → Bool) w', Act3J w1 B O P g p S ls L w' → Calls Try.prog 33 #[.slice (some ⟨gm, 0, none⟩) n cap, .slice la n lc] w' fun e w'' => e = .returned (.bool true) ∧ Act3J w1 B O P g p S ls L w'') := Lib.hid (by
    rintro L w' ⟨O', P', h, hO, hk⟩
    obtain ⟨_, q1, q2⟩ := HX.out w' hk
    refine (istays_any gm cap la n lc ls _ w' HN.out.symm q2 q1.ints (by have := HL.out; have := HN.out; omega)).mono ?_
    rintro e w'' ⟨rfl, q, rfl⟩
    exact ⟨rfl, O', P', h.far (A2 := []) ((Keep.refl _ _).drewN q) (by simp) (by simp), hO, hk.drewN q⟩)
  clear hlent hb1 bx
  go_upto_region 16 with fail
  refine wp_region_sinks 68 13 80 2 (fun | 0 => .pointer (some ⟨g, 0, none⟩) | 1 => .slice (some ⟨gm, 0, none⟩) n cap | 2 => .int .i64 lost | 3 => .pointer (some ⟨p, 0, none⟩) | 4 => .pointer (some ⟨w.heap.size, 4, none⟩) | 5 => .slice la n lc | 6 => .int .i64 lost | 7 => .bool true | 8 => .bool true | 9 => .slice (some ⟨gm, 0, none⟩) n cap | 10 => .pointer (some ⟨w.heap.size, 4, none⟩) | 11 => .slice la n lc | _ => .bool true) (Act3J w1 B O P g p S ls) (by kernel_rfl) (by kernel_rfl) rfl (by omega) (by kernel_rfl) rfl (by simp) ?h0 ?hops ?hrest
  case h0 => exact ⟨O, P, HT1.out.far (A2 := []) ((Keep.refl _ _).drew) (by simp) (by simp), fun b hb => .inl hb, (Keep.refl _ _).drew⟩
  case hops =>
    intro o ho L x w' hc hF hLj hJ hw hv
    have y4 := (HX.out w' hJ.choose_spec.choose_spec.2.2).1
    have HJ := Lib.hid hJ
    clear hJ
    rcases (show o = 0 ∨ o = 1 ∨ o = 2 ∨ o = 3 ∨ o = 4 ∨ o = 5 ∨ o = 6 ∨ o = 7 ∨ o = 8 ∨ o = 9 ∨ o = 10 ∨ o = 11 ∨ o = 12 by omega) with rfl | rfl | rfl | rfl | rfl | rfl | rfl | rfl | rfl | rfl | rfl | rfl | rfl
    · have t0 : x.tmps[0]?.getD undef = .pointer (some ⟨g, 0, none⟩) := by rw [hF.2.2 0 (by omega)]; rfl
      have hJn := act3_keep (o := 0) (by decide) HJ.out
      clear hw hv hF
      refine wpOp_value (v := .pointer (some ⟨g, 0, none⟩)) (w' := w') rfl rfl ?_ ⟨rfl, hJn⟩
      go_simp
    · have t0 : x.tmps[10]?.getD undef = .slice (some ⟨gm, 0, none⟩) n cap := by rw [hF.2.2 10 (by omega)]; rfl
      have hJn := act3_keep (o := 1) (by decide) HJ.out
      clear hw hv hF
      refine wpOp_value (v := .slice (some ⟨gm, 0, none⟩) n cap) (w' := w') rfl rfl ?_ ⟨rfl, hJn⟩
      go_simp
    · have t0 : x.tmps[68]?.getD undef = .pointer (some ⟨g, 0, none⟩) := hv 0 (of_decide_eq_true (by kernel_rfl)) (by omega)
      have t1 : x.tmps[69]?.getD undef = .slice (some ⟨gm, 0, none⟩) n cap := hv 1 (of_decide_eq_true (by kernel_rfl)) (by omega)
      have hC := HD3.out L w' hLj HJ.out
      clear hw hv hF
      refine wpOp_call (f := 15) (args := #[.pointer (some ⟨g, 0, none⟩), .slice (some ⟨gm, 0, none⟩) n cap]) rfl rfl (by go_simp) (hC.mono ?_)
      rintro e w'' ⟨rfl, h⟩
      exact ⟨_, rfl, rfl, h⟩
    · have t0 : x.tmps[1]?.getD undef = .pointer (some ⟨p, 0, none⟩) := by rw [hF.2.2 1 (by omega)]; rfl
      have hJn := act3_keep (o := 3) (by decide) HJ.out
      clear hw hv hF
      refine wpOp_value (v := .pointer (some ⟨p, 0, none⟩)) (w' := w') rfl rfl ?_ ⟨rfl, hJn⟩
      go_simp
    · have t0 : x.tmps[5]?.getD undef = .pointer (some ⟨w.heap.size, 0, none⟩) := by rw [hF.2.2 5 (by omega)]; rfl
      have hJn := act3_keep (o := 4) (by decide) HJ.out
      clear hw hv hF
      refine wpOp_value (v := .pointer (some ⟨w.heap.size, 4, none⟩)) (w' := w') rfl rfl ?_ ⟨rfl, hJn⟩
      go_simp
    · have t0 : x.tmps[72]?.getD undef = .pointer (some ⟨w.heap.size, 4, none⟩) := hv 4 (of_decide_eq_true (by kernel_rfl)) (by omega)
      have hJn := act3_keep (o := 5) (by decide) HJ.out
      clear hw hv hF
      refine wpOp_value (v := .slice la n lc) (w' := w') rfl rfl ?_ ⟨rfl, hJn⟩
      go_simp
    · have t0 : x.tmps[71]?.getD undef = .pointer (some ⟨p, 0, none⟩) := hv 3 (of_decide_eq_true (by kernel_rfl)) (by omega)
      have t1 : x.tmps[73]?.getD undef = .slice la n lc := hv 5 (of_decide_eq_true (by kernel_rfl)) (by omega)
      have hC := HP3.out L w' hLj HJ.out
      clear hw hv hF
      refine wpOp_call (f := 32) (args := #[.pointer (some ⟨p, 0, none⟩), .slice la n lc]) rfl rfl (by go_simp) (hC.mono ?_)
      rintro e w'' ⟨rfl, h⟩
      exact ⟨_, rfl, rfl, h⟩
    · have t0 : x.tmps[70]?.getD undef = .int .i64 lost := hv 2 (of_decide_eq_true (by kernel_rfl)) (by omega)
      have t1 : x.tmps[74]?.getD undef = .int .i64 lost := hv 6 (of_decide_eq_true (by kernel_rfl)) (by omega)
      have hJn := act3_keep (o := 7) (by decide) HJ.out
      clear hw hv hF
      refine wpOp_value (v := .bool true) (w' := w') rfl rfl ?_ ⟨rfl, hJn⟩
      go_simp
    · have t0 : x.tmps[75]?.getD undef = .bool true := hv 7 (of_decide_eq_true (by kernel_rfl)) (by omega)
      have hJn := act3_keep (o := 8) (by decide) HJ.out
      clear hw hv hF
      refine wpOp_value (v := .bool true) (w' := w') rfl rfl ?_ ⟨rfl, hJn⟩
      go_simp
    · have t0 : x.tmps[10]?.getD undef = .slice (some ⟨gm, 0, none⟩) n cap := by rw [hF.2.2 10 (by omega)]; rfl
      have tg : x.tmps[76]?.getD undef = .bool true := hv 8 (of_decide_eq_true (by kernel_rfl)) (by omega)
      have hJn := act3_keep (o := 9) (by decide) HJ.out
      clear hw hv hF
      refine wpOp_value_g (v := .slice (some ⟨gm, 0, none⟩) n cap) (w' := w') rfl (wanted_yes rfl rfl tg) ?_ ⟨rfl, hJn⟩
      go_simp
    · have t0 : x.tmps[5]?.getD undef = .pointer (some ⟨w.heap.size, 0, none⟩) := by rw [hF.2.2 5 (by omega)]; rfl
      have tg : x.tmps[76]?.getD undef = .bool true := hv 8 (of_decide_eq_true (by kernel_rfl)) (by omega)
      have hJn := act3_keep (o := 10) (by decide) HJ.out
      clear hw hv hF
      refine wpOp_value_g (v := .pointer (some ⟨w.heap.size, 4, none⟩)) (w' := w') rfl (wanted_yes rfl rfl tg) ?_ ⟨rfl, hJn⟩
      go_simp
    · have t0 : x.tmps[78]?.getD undef = .pointer (some ⟨w.heap.size, 4, none⟩) := hv 10 (of_decide_eq_true (by kernel_rfl)) (by omega)
      have tg : x.tmps[76]?.getD undef = .bool true := hv 8 (of_decide_eq_true (by kernel_rfl)) (by omega)
      have hJn := act3_keep (o := 11) (by decide) HJ.out
      clear hw hv hF
      refine wpOp_value_g (v := .slice la n lc) (w' := w') rfl (wanted_yes rfl rfl tg) ?_ ⟨rfl, hJn⟩
      go_simp
    · have t0 : x.tmps[77]?.getD undef = .slice (some ⟨gm, 0, none⟩) n cap := hv 9 (of_decide_eq_true (by kernel_rfl)) (by omega)
      have t1 : x.tmps[79]?.getD undef = .slice la n lc := hv 11 (of_decide_eq_true (by kernel_rfl)) (by omega)
      have tg : x.tmps[76]?.getD undef = .bool true := hv 8 (of_decide_eq_true (by kernel_rfl)) (by omega)
      have hC := HS3.out L w' HJ.out
      clear hw hv hF
      refine wpOp_call_g (f := 33) (args := #[.slice (some ⟨gm, 0, none⟩) n cap, .slice la n lc]) rfl (wanted_yes rfl rfl tg) (by go_simp) (hC.mono ?_)
      rintro e w'' ⟨rfl, h⟩
      exact ⟨_, rfl, rfl, act3_keep (o := 12) (by decide) h⟩
  case hrest =>
    intro L w' hL hJ
    obtain ⟨O', P', h, hO, hk⟩ := hJ
    rw [hL 2 (by omega), hL 6 (by omega)] at h
    have HH : Hid (PairTurns B (O ++ P) g p (S.crash ls) w w') := Lib.hid (PairTurns.after HB1.out ⟨O' ++ P', Two.pair h, hO, hk⟩)
    clear h hO hk hL
    rw [show List.range' 13 2 = [13, 14] from rfl]
    simp only [putAll, List.range, List.range.loop, List.foldl, Nat.reduceAdd, List.setIfInBounds_toArray, List.set_cons_succ, List.set_cons_zero]
    rw [wpOps_cons]
    refine wpOp_value (v := .bool true) (w' := w') rfl rfl (by go_simp) ?_
    change wpOps _ _ _ [14] (Act.put _ (some 81) (.bool true)) _
    rw [wpOps_cons]
    refine wpOp_value (v := .bool true) (w' := w') rfl rfl (by simp only [Act.put, List.setIfInBounds_toArray]; go_simp) ?_
    change wpOps _ _ _ [] (Act.put _ (some 6) (.bool true)) _
    simp only [wpOps, Act.put, List.setIfInBounds_toArray]
    go_wp2_with fail
    go_ret
    exact ⟨rfl, HH.out⟩
end Go.Proofs.Ytpepabggpappgaa
