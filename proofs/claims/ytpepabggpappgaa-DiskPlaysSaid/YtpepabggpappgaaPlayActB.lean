/-
  An act on a disk, and on the document's: Arm. No statement is proved here.
-/
import Derived.Test.YtpepabggpappgaaPlayPure
import Derived.Test.YtpepabggpappgaaKnown
namespace Go.Proofs.Ytpepabggpappgaa
open Go.RowKit

theorem PlainIs.armed {w : World} {B g : Nat} {vn vs vw : Value} {nv : Int} {ka : Option Addr} {km kc : Nat} {S : DS} (h : PlainIs w B g vn vs vw nv ka km kc S) (a : Int) (la : Option Addr) (lc : Nat) (l : List Int) (hl : Low w B la l) :
    PlainIs (((w.setCell ⟨g, 4, none⟩ (.bool (decide (a ≥ 0)))).setCell ⟨g, 5, none⟩ (.int .i64 a)).setCell ⟨g, 6, none⟩ (.slice la l.length lc)) B g vn vs vw a la l.length lc (S.arm a l) := by
  have ha := h.apart
  simp only [List.nodup_cons, List.mem_append, not_or] at ha
  have hk : Keep [g] w (((w.setCell ⟨g, 4, none⟩ (.bool (decide (a ≥ 0)))).setCell ⟨g, 5, none⟩ (.int .i64 a)).setCell ⟨g, 6, none⟩ (.slice la l.length lc)) := (((Keep.refl _ _).put (.inl (by simp)) _ _).put (.inl (by simp)) _ _).put (.inl (by simp)) _ _
  have hb := ((h.blk.put 4 (.bool (decide (a ≥ 0)))).put 5 (.int .i64 a)).put 6 (.slice la l.length lc)
  have e : (S.arm a l).now = S.now ∧ (S.arm a l).safe = S.safe ∧ (S.arm a l).dirty = S.dirty ∧ (S.arm a l).on = S.on ∧ (S.arm a l).writes = S.writes ∧ (S.arm a l).armed = decide (a ≥ 0) ∧ (0 ≤ a → (S.arm a l).left = a.toNat ∧ (S.arm a l).keep = l) := by
    unfold DS.arm
    by_cases hn : a < 0
    · rw [if_pos hn]
      exact ⟨rfl, rfl, rfl, rfl, rfl, by simp; omega, fun h => by omega⟩
    · rw [if_neg hn]
      exact ⟨rfl, rfl, rfl, rfl, rfl, by simp; omega, fun _ => ⟨rfl, rfl⟩⟩
  obtain ⟨e1, e2, e3, e4, e5, e6, e7⟩ := e
  have far : ∀ k, k = g → k ∈ vn.ownBlock.toList ∨ k ∈ vs.ownBlock.toList ∨ k ∈ vw.ownBlock.toList → False := by
    rintro k rfl (hm | hm | hm)
    · exact ha.1.1 hm
    · exact ha.1.2.1 hm
    · exact ha.1.2.2 hm
  refine ⟨?_, ?_, ?_, ?_, fun hA => ?_, h.apart, h.low⟩
  · rw [e4, e5, e6]; exact hb
  · rw [e1]; exact row_keep h.now hk (fun k e hm => far k (List.mem_singleton.1 hm) (.inl (by simp [e])))
  · rw [e2]; exact row_keep h.safe hk (fun k e hm => far k (List.mem_singleton.1 hm) (.inr (.inl (by simp [e]))))
  · rw [e3]; exact row_keep h.dirty hk (fun k e hm => far k (List.mem_singleton.1 hm) (.inr (.inr (by simp [e]))))
  · rw [e6] at hA
    have h0 : 0 ≤ a := by simpa using hA
    obtain ⟨q1, q2⟩ := e7 h0
    rw [q1, q2]
    exact ⟨by omega, rfl, hl.keep hk (by intro b hb; rw [List.mem_singleton.1 hb]; exact h.low)⟩

def slA : Nat → Option Nat
  | 0 => some 99
  | 1 => some 100
  | 2 => some 101
  | 3 => some 102
  | 4 => some 103
  | 5 => some 104
  | 6 => some 105
  | 7 => some 106
  | 8 => some 107
  | 9 => some 108
  | 10 => some 109
  | 11 => some 110
  | 13 => some 111
  | 14 => some 112
  | 16 => some 113
  | 17 => some 114
  | _ => none
theorem slA_far {s : Nat} (hs : s < 99) : ∀ i, i < 19 → slA i ≠ some s := by
  intro i hi e
  rcases (show i = 0 ∨ i = 1 ∨ i = 2 ∨ i = 3 ∨ i = 4 ∨ i = 5 ∨ i = 6 ∨ i = 7 ∨ i = 8 ∨ i = 9 ∨ i = 10 ∨ i = 11 ∨ i = 12 ∨ i = 13 ∨ i = 14 ∨ i = 15 ∨ i = 16 ∨ i = 17 ∨ i = 18 by omega) with rfl | rfl | rfl | rfl | rfl | rfl | rfl | rfl | rfl | rfl | rfl | rfl | rfl | rfl | rfl | rfl | rfl | rfl | rfl <;> simp [slA] at e <;> omega

set_option maxRecDepth 100000 in
set_option maxHeartbeats 8000000 in
theorem act5_any {w : World} {B : Nat} {O P : List Nat} {g p k : Nat} {S : DS} (d : OpD) (hk : d.kind = 5) (h : Two w B O P g p S S) (hf : S.Fit k) (hd : d.In w B) (hl : d.light) :
    Calls Try.prog 10 #[.pointer (some ⟨g, 0, none⟩), .pointer (some ⟨p, 0, none⟩), .agg d.cells] w fun e w' => e = .returned (.bool true) ∧ PairTurns B (O ++ P) g p (S.arm d.a d.l) w w' := by
  obtain ⟨kind, a, wa, wc, ws, own, la, lc, ls⟩ := d
  simp only at hk
  subst hk
  obtain ⟨-, -, hls, hln⟩ := hd
  obtain ⟨-, hl2, -⟩ := hl
  simp only at hls hln hl2
  unfold OpD.cells
  simp only
  obtain ⟨n, hn⟩ : ∃ n, n = ls.length := ⟨_, rfl⟩
  have HA : Hid (∀ o : Obj, Two (w.alloc o) B O P g p S S ∧ Below w.heap.size w (w.alloc o)) := Lib.hid (fun o => ⟨h.below ((Below.refl _ _).alloc (Nat.le_refl _) _), (Below.refl _ _).alloc (Nat.le_refl _) _⟩)
  have HM : Hid (∀ b ∈ O ++ P, B ≤ b ∧ b < w.heap.size) := Lib.hid (fun b hb => h.mem hb)
  have HLS := Lib.hid hls
  have HLN := Lib.hid hln
  have HN := Lib.hid hn
  have HL := Lib.hid hl2
  have HF := Lib.hid hf
  rw [← hn]
  clear h hf hls hln hl2 hn
  go_enter Try.func10, Try.ntmps10
  go_wp2_with fail
  refine (ilent_any la n lc ls _ HN.out.symm ((HLS.out.keep (O := []) (Keep.of_below (HA.out _).2) (by simp)).ints) (by have := HL.out; have := HN.out; omega) (fun e => (HLN.out e).2)).mono ?_
  rintro e w1 ⟨gm, cap, rfl, hlent, hb1⟩
  have HLT := Lib.hid hlent
  have HB1 : Hid (Below w.heap.size w w1) := Lib.hid ((HA.out _).2.trans (hb1.mono (by simp)))
  have HT1 : Hid (Two w1 B O P g p S S) := Lib.hid ((HA.out _).1.below hb1)
  have HGM : Hid (w.heap.size < gm ∧ gm < w1.heap.size) := Lib.hid ⟨by have := hlent.1; simp at this; omega, hlent.2.1⟩
  have bx := (Blk.new w 34 #[.int .i64 5, .int .i64 a, .slice wa ws.length wc, .bool own, .slice la n lc]).below hb1 (by simp)
  have HBX := Lib.hid bx
  have x1 := bx.cell 1
  simp at x1
  have HAR := Lib.hid (darm_any a (some ⟨gm, 0, none⟩) n cap ls HT1.out.d HN.out.symm hlent.ints (fun e => by cases e) (by have := HL.out; have := HN.out; omega))
  clear hlent hb1 bx
  go_wp2_with fail
  refine HAR.out.mono ?_
  rintro e w2 ⟨rfl, hT⟩
  obtain ⟨O', hT1, hT2, hT3⟩ := HT1.out.first hT
  have HT := Lib.hid hT
  have HK := Lib.hid hT3
  have HBX2 : Hid (Blk w2 w.heap.size 34 #[.int .i64 5, .int .i64 a, .slice wa ws.length wc, .bool own, .slice la n lc]) := Lib.hid ((hT3.block _ HBX.out.lt (fun hm => by have := (HM.out w.heap.size (by simp [hm])).2; omega)).trans HBX.out)
  obtain ⟨vn, vs, vw, nv, ka, km, kc, hPe, hp⟩ := hT1.p
  have HPE := Lib.hid hPe
  have HPI := Lib.hid hp
  have HPM : Hid (p < w.heap.size) := Lib.hid (HM.out p (by rw [hPe]; simp)).2
  have y1 := HBX2.out.cell 1
  have y4 := HBX2.out.cell 4
  have f4 := hp.blk.frozen 4
  have f5 := hp.blk.frozen 5
  have f6 := hp.blk.frozen 6
  have c4 := hp.blk.cell 4
  have c5 := hp.blk.cell 5
  have c6 := hp.blk.cell 6
  simp at y1 y4 c4 c5 c6
  clear hT hT1 hT2 hT3 hPe hp x1
  go_upto_region 23 with fail
  clear y1 y4
  obtain ⟨u0, hu0⟩ : ∃ u, u = w2.drew := ⟨_, rfl⟩
  obtain ⟨u1, hu1⟩ : ∃ u, u = u0.setCell ⟨p, 4, none⟩ (.bool (decide (a ≥ 0))) := ⟨_, rfl⟩
  obtain ⟨u2, hu2⟩ : ∃ u, u = u1.setCell ⟨p, 5, none⟩ (.int .i64 a) := ⟨_, rfl⟩
  obtain ⟨u3, hu3⟩ : ∃ u, u = u2.setCell ⟨p, 6, none⟩ (.slice la n lc) := ⟨_, rfl⟩
  have b0 : Blk u0 p 58 #[vn, vs, vw, .bool (!S.on), .bool S.armed, .int .i64 nv, .slice ka km kc, .int .i64 (S.writes : Int)] := by rw [hu0]; exact HPI.out.blk
  have b1 := b0.put 4 (.bool (decide (a ≥ 0)))
  rw [← hu1] at b1
  have b2 := b1.put 5 (.int .i64 a)
  rw [← hu2] at b2
  have HU0 := Lib.hid hu0
  have HU1 := Lib.hid hu1
  have HU2 := Lib.hid hu2
  have HU3 := Lib.hid hu3
  have HS12 : Hid (u0.cell? ⟨p, 4, none⟩ = some (.bool S.armed) ∧ u0.frozen? ⟨p, 4, none⟩ = false ∧ u1 = u0.setCell ⟨p, 4, none⟩ (.bool (decide (a ≥ 0)))) := Lib.hid ⟨by have h := b0.cell 4; simpa using h, b0.frozen 4, hu1⟩
  have HS15 : Hid (u1.cell? ⟨p, 5, none⟩ = some (.int .i64 nv) ∧ u1.frozen? ⟨p, 5, none⟩ = false ∧ u2 = u1.setCell ⟨p, 5, none⟩ (.int .i64 a)) := Lib.hid ⟨by have h := b1.cell 5; simpa using h, b1.frozen 5, hu2⟩
  have HS18 : Hid (u2.cell? ⟨p, 6, none⟩ = some (.slice ka km kc) ∧ u2.frozen? ⟨p, 6, none⟩ = false ∧ u3 = u2.setCell ⟨p, 6, none⟩ (.slice la n lc)) := Lib.hid ⟨by have h := b2.cell 6; simpa using h, b2.frozen 6, hu3⟩
  have HPI0 : Hid (PlainIs u0 B p vn vs vw nv ka km kc S) := Lib.hid (by rw [hu0]; exact HPI.out.far (O2 := []) ((Keep.refl _ _).drew) (by simp) (by simp))
  have HK0 : Hid (Keep O w1 u0) := Lib.hid (by rw [hu0]; exact HK.out.drew)
  have HK01 : Hid (Keep [p] u0 u1) := Lib.hid (by rw [hu1]; exact (Keep.refl _ _).put (.inl (by simp)) _ _)
  have HK02 : Hid (Keep [p] u0 u2) := Lib.hid (by rw [hu2]; exact HK01.out.put (.inl (by simp)) _ _)
  have HK3 : Hid (Keep [p] u0 u3) := Lib.hid (by rw [hu3]; exact HK02.out.put (.inl (by simp)) _ _)
  have HXX : Hid (∀ w', Keep [p] u0 w' → Blk w' w.heap.size 34 #[.int .i64 5, .int .i64 a, .slice wa ws.length wc, .bool own, .slice la n lc]) := Lib.hid (fun w' hk => by
    refine (hk.block _ ?_ ?_).trans ((show u0.heap[w.heap.size]? = w2.heap[w.heap.size]? by rw [HU0.out]; rfl).trans HBX2.out)
    · rw [HU0.out]; exact HBX2.out.lt
    · intro hm; have := List.mem_singleton.1 hm; have := HPM.out; omega)
  have HC : Hid (∀ w', (w' = u0 ∨ w' = u1 ∨ w' = u2 ∨ w' = u3) → w'.cell? ⟨w.heap.size, 1, none⟩ = some (.int .i64 a) ∧ w'.cell? ⟨w.heap.size, 4, none⟩ = some (.slice la n lc)) := Lib.hid (fun w' hw => by
    have hk : Keep [p] u0 w' := by
      rcases hw with rfl | rfl | rfl | rfl
      · exact Keep.refl _ _
      · exact HK01.out
      · exact HK02.out
      · exact HK3.out
    have h1 := (HXX.out w' hk).cell 1
    have h4 := (HXX.out w' hk).cell 4
    simp at h1 h4
    exact ⟨h1, h4⟩)
  clear c4 c5 c6 f4 f5 f6 hu0 hu1 hu2 hu3 b0 b1 b2
  refine wp_region_known 19 slA (fun | 0 => .pointer (some ⟨p, 0, none⟩) | 1 => .pointer (some ⟨p, 0, none⟩) | 2 => .pointer (some ⟨p, 0, none⟩) | 3 => .pointer (some ⟨w.heap.size, 1, none⟩) | 4 => .int .i64 a | 5 => .bool (decide (a ≥ 0)) | 6 => .pointer (some ⟨w.heap.size, 1, none⟩) | 7 => .int .i64 a | 8 => .pointer (some ⟨w.heap.size, 4, none⟩) | 9 => .slice la n lc | 10 => .pointer (some ⟨p, 0, none⟩) | 11 => .pointer (some ⟨p, 4, none⟩) | 13 => .pointer (some ⟨p, 0, none⟩) | 14 => .pointer (some ⟨p, 5, none⟩) | 16 => .pointer (some ⟨p, 0, none⟩) | 17 => .pointer (some ⟨p, 6, none⟩) | _ => undef) (fun L w' => w' = if L 18 then u3 else if L 15 then u2 else if L 12 then u1 else u0) (by kernel_rfl) (by kernel_rfl) rfl (by kernel_rfl) (by kernel_rfl) HU0.out.symm ?hops ?hrest
  case hops =>
    intro o ho L x w' hc hF hLj hJ hw hv
    have hJ4 : w' = u0 ∨ w' = u1 ∨ w' = u2 ∨ w' = u3 := by
      rw [hJ]
      split
      · exact .inr (.inr (.inr rfl))
      · split
        · exact .inr (.inr (.inl rfl))
        · split
          · exact .inr (.inl rfl)
          · exact .inl rfl
    obtain ⟨y1, y4⟩ := HC.out w' hJ4
    have HJ := Lib.hid hJ
    clear hJ4 hJ
    rcases (show o = 0 ∨ o = 1 ∨ o = 2 ∨ o = 3 ∨ o = 4 ∨ o = 5 ∨ o = 6 ∨ o = 7 ∨ o = 8 ∨ o = 9 ∨ o = 10 ∨ o = 11 ∨ o = 12 ∨ o = 13 ∨ o = 14 ∨ o = 15 ∨ o = 16 ∨ o = 17 ∨ o = 18 by omega) with rfl | rfl | rfl | rfl | rfl | rfl | rfl | rfl | rfl | rfl | rfl | rfl | rfl | rfl | rfl | rfl | rfl | rfl | rfl
    · have t0 : x.tmps[1]?.getD undef = .pointer (some ⟨p, 0, none⟩) := by rw [hF 1 (slA_far (by omega))]; rfl
      clear hw hv hF
      refine wpOp_value (v := .pointer (some ⟨p, 0, none⟩)) (w' := w') rfl rfl ?_ ⟨rfl, HJ.out⟩
      go_simp
    · have t0 : x.tmps[1]?.getD undef = .pointer (some ⟨p, 0, none⟩) := by rw [hF 1 (slA_far (by omega))]; rfl
      clear hw hv hF
      refine wpOp_value (v := .pointer (some ⟨p, 0, none⟩)) (w' := w') rfl rfl ?_ ⟨rfl, HJ.out⟩
      go_simp
    · have t0 : x.tmps[1]?.getD undef = .pointer (some ⟨p, 0, none⟩) := by rw [hF 1 (slA_far (by omega))]; rfl
      clear hw hv hF
      refine wpOp_value (v := .pointer (some ⟨p, 0, none⟩)) (w' := w') rfl rfl ?_ ⟨rfl, HJ.out⟩
      go_simp
    · have t0 : x.tmps[5]?.getD undef = .pointer (some ⟨w.heap.size, 0, none⟩) := by rw [hF 5 (slA_far (by omega))]; rfl
      clear hw hv hF
      refine wpOp_value (v := .pointer (some ⟨w.heap.size, 1, none⟩)) (w' := w') rfl rfl ?_ ⟨rfl, HJ.out⟩
      go_simp
    · have t0 : x.tmps[102]?.getD undef = .pointer (some ⟨w.heap.size, 1, none⟩) := hv 3 (of_decide_eq_true (by kernel_rfl)) (by omega) 102 rfl
      clear hw hv hF
      refine wpOp_value (v := .int .i64 a) (w' := w') rfl rfl ?_ ⟨rfl, HJ.out⟩
      go_simp
    · have t0 : x.tmps[103]?.getD undef = .int .i64 a := hv 4 (of_decide_eq_true (by kernel_rfl)) (by omega) 103 rfl
      clear hw hv hF
      refine wpOp_value (v := .bool (decide (a ≥ 0))) (w' := w') rfl rfl ?_ ⟨rfl, HJ.out⟩
      go_simp
    · have t0 : x.tmps[5]?.getD undef = .pointer (some ⟨w.heap.size, 0, none⟩) := by rw [hF 5 (slA_far (by omega))]; rfl
      clear hw hv hF
      refine wpOp_value (v := .pointer (some ⟨w.heap.size, 1, none⟩)) (w' := w') rfl rfl ?_ ⟨rfl, HJ.out⟩
      go_simp
    · have t0 : x.tmps[105]?.getD undef = .pointer (some ⟨w.heap.size, 1, none⟩) := hv 6 (of_decide_eq_true (by kernel_rfl)) (by omega) 105 rfl
      clear hw hv hF
      refine wpOp_value (v := .int .i64 a) (w' := w') rfl rfl ?_ ⟨rfl, HJ.out⟩
      go_simp
    · have t0 : x.tmps[5]?.getD undef = .pointer (some ⟨w.heap.size, 0, none⟩) := by rw [hF 5 (slA_far (by omega))]; rfl
      clear hw hv hF
      refine wpOp_value (v := .pointer (some ⟨w.heap.size, 4, none⟩)) (w' := w') rfl rfl ?_ ⟨rfl, HJ.out⟩
      go_simp
    · have t0 : x.tmps[107]?.getD undef = .pointer (some ⟨w.heap.size, 4, none⟩) := hv 8 (of_decide_eq_true (by kernel_rfl)) (by omega) 107 rfl
      clear hw hv hF
      refine wpOp_value (v := .slice la n lc) (w' := w') rfl rfl ?_ ⟨rfl, HJ.out⟩
      go_simp
    · have t0 : x.tmps[99]?.getD undef = .pointer (some ⟨p, 0, none⟩) := hv 0 (of_decide_eq_true (by kernel_rfl)) (by omega) 99 rfl
      clear hw hv hF
      refine wpOp_value (v := .pointer (some ⟨p, 0, none⟩)) (w' := w') rfl rfl ?_ ⟨rfl, HJ.out⟩
      go_simp
    · have t0 : x.tmps[109]?.getD undef = .pointer (some ⟨p, 0, none⟩) := hv 10 (of_decide_eq_true (by kernel_rfl)) (by omega) 109 rfl
      clear hw hv hF
      refine wpOp_value (v := .pointer (some ⟨p, 4, none⟩)) (w' := w') rfl rfl ?_ ⟨rfl, HJ.out⟩
      go_simp
    · have t0 : x.tmps[110]?.getD undef = .pointer (some ⟨p, 4, none⟩) := hv 11 (of_decide_eq_true (by kernel_rfl)) (by omega) 110 rfl
      have t1 : x.tmps[104]?.getD undef = .bool (decide (a ≥ 0)) := hv 5 (of_decide_eq_true (by kernel_rfl)) (by omega) 104 rfl
      have h15 : L 15 = false := by
        cases h : L 15 with
        | false => rfl
        | true => rw [hc 15 h 12 (of_decide_eq_true (by kernel_rfl))] at hLj; cases hLj
      have h18 : L 18 = false := by
        cases h : L 18 with
        | false => rfl
        | true => rw [hc 18 h 12 (of_decide_eq_true (by kernel_rfl))] at hLj; cases hLj
      have hJ := HJ.out
      rw [h18, h15, hLj] at hJ
      have hJ' : w' = u0 := hJ
      subst hJ'
      clear hw hv hF hJ HJ y1 y4
      obtain ⟨hs1, hs2, hs3⟩ := HS12.out
      refine wpOp_skip (w' := u1) rfl rfl ?_ ⟨rfl, by simp [h15, h18]⟩
      rw [hs3]
      go_simp
    · have t0 : x.tmps[100]?.getD undef = .pointer (some ⟨p, 0, none⟩) := hv 1 (of_decide_eq_true (by kernel_rfl)) (by omega) 100 rfl
      clear hw hv hF
      refine wpOp_value (v := .pointer (some ⟨p, 0, none⟩)) (w' := w') rfl rfl ?_ ⟨rfl, HJ.out⟩
      go_simp
    · have t0 : x.tmps[111]?.getD undef = .pointer (some ⟨p, 0, none⟩) := hv 13 (of_decide_eq_true (by kernel_rfl)) (by omega) 111 rfl
      clear hw hv hF
      refine wpOp_value (v := .pointer (some ⟨p, 5, none⟩)) (w' := w') rfl rfl ?_ ⟨rfl, HJ.out⟩
      go_simp
    · have t0 : x.tmps[112]?.getD undef = .pointer (some ⟨p, 5, none⟩) := hv 14 (of_decide_eq_true (by kernel_rfl)) (by omega) 112 rfl
      have t1 : x.tmps[106]?.getD undef = .int .i64 a := hv 7 (of_decide_eq_true (by kernel_rfl)) (by omega) 106 rfl
      have h12 : L 12 = true := hw 12 (of_decide_eq_true (by kernel_rfl))
      have h18 : L 18 = false := by
        cases h : L 18 with
        | false => rfl
        | true => rw [hc 18 h 15 (of_decide_eq_true (by kernel_rfl))] at hLj; cases hLj
      have hJ := HJ.out
      rw [h18, hLj, h12] at hJ
      have hJ' : w' = u1 := hJ
      subst hJ'
      clear hw hv hF hJ HJ y1 y4
      obtain ⟨hs1, hs2, hs3⟩ := HS15.out
      refine wpOp_skip (w' := u2) rfl rfl ?_ ⟨rfl, by simp [h18]⟩
      rw [hs3]
      go_simp
    · have t0 : x.tmps[101]?.getD undef = .pointer (some ⟨p, 0, none⟩) := hv 2 (of_decide_eq_true (by kernel_rfl)) (by omega) 101 rfl
      clear hw hv hF
      refine wpOp_value (v := .pointer (some ⟨p, 0, none⟩)) (w' := w') rfl rfl ?_ ⟨rfl, HJ.out⟩
      go_simp
    · have t0 : x.tmps[113]?.getD undef = .pointer (some ⟨p, 0, none⟩) := hv 16 (of_decide_eq_true (by kernel_rfl)) (by omega) 113 rfl
      clear hw hv hF
      refine wpOp_value (v := .pointer (some ⟨p, 6, none⟩)) (w' := w') rfl rfl ?_ ⟨rfl, HJ.out⟩
      go_simp
    · have t0 : x.tmps[114]?.getD undef = .pointer (some ⟨p, 6, none⟩) := hv 17 (of_decide_eq_true (by kernel_rfl)) (by omega) 114 rfl
      have t1 : x.tmps[108]?.getD undef = .slice la n lc := hv 9 (of_decide_eq_true (by kernel_rfl)) (by omega) 108 rfl
      have h15 : L 15 = true := hw 15 (of_decide_eq_true (by kernel_rfl))
      have hJ := HJ.out
      rw [hLj, h15] at hJ
      have hJ' : w' = u2 := hJ
      subst hJ'
      clear hw hv hF hJ HJ y1 y4
      obtain ⟨hs1, hs2, hs3⟩ := HS18.out
      refine wpOp_skip (w' := u3) rfl rfl ?_ ⟨rfl, by simp⟩
      rw [hs3]
      go_simp
  case hrest =>
    intro L w' hL hJ
    rw [hL 18 (by omega)] at hJ
    have hJ' : w' = u3 := hJ
    subst hJ'
    clear hL hJ
    simp only [putSlots, slA, List.range, List.range.loop, List.foldl, List.setIfInBounds_toArray, List.set_cons_succ, List.set_cons_zero]
    have hlow0 : Low u0 B la ls := ((HLS.out.keep (O := []) (Keep.of_below HB1.out) (by simp)).keep HK0.out (fun b hb => (HM.out b (by simp [hb])).1))
    have HP3 : Hid (PlainIs w' B p vn vs vw a la ls.length lc (S.arm a ls)) := Lib.hid (by
      rw [HU3.out, HU2.out, HU1.out, HN.out]
      exact HPI0.out.armed a la lc ls hlow0)
    have HL3 : Hid (LentI w' (w.alloc (.cells #[.int .i64 5, .int .i64 a, .slice wa ws.length wc, .bool own, .slice la n lc] 34)).heap.size gm cap ls) := Lib.hid ((HLT.out.keep HK0.out (fun hm => by have := (HM.out gm (by simp [hm])).2; have := HGM.out.1; omega)).keep HK3.out (by intro hm; have := List.mem_singleton.1 hm; have := HPM.out; have := HGM.out.1; omega))
    have HLW3 : Hid (Low w' B la ls) := Lib.hid (hlow0.keep HK3.out (by intro b hb; rw [List.mem_singleton.1 hb]; exact HPI.out.low))
    have HBX3 := Lib.hid (HXX.out w' HK3.out)
    have z4 := HBX3.out.cell 4
    simp at z4
    have HST := Lib.hid (istays_any gm cap la n lc ls _ w' HN.out.symm HL3.out HLW3.out.ints (by have := HL.out; have := HN.out; omega))
    clear hlow0
    go_wp2_with fail
    refine HST.out.mono ?_
    rintro e w4 ⟨rfl, q, rfl⟩
    go_wp2_with fail
    go_ret
    have h1 : Keep P w2 u0 := by rw [HU0.out]; exact (Keep.refl _ _).drew
    have h2 : Keep P w2 w' := h1.trans HK3.out (by intro b hb; rw [List.mem_singleton.1 hb]; exact .inl (by rw [HPE.out]; simp))
    have h3 : PairTurns B (O ++ P) g p (S.arm a ls) w w' := (HT1.out.both HT.out (fun _ => ⟨P, ⟨vn, vs, vw, a, la, ls.length, lc, HPE.out, HP3.out⟩, fun b hb => .inl hb, h2⟩)).after HB1.out
    exact ⟨rfl, h3.below_in ⟨rfl, rfl, rfl, Nat.le_refl _, fun _ _ => rfl⟩⟩
end Go.Proofs.Ytpepabggpappgaa
