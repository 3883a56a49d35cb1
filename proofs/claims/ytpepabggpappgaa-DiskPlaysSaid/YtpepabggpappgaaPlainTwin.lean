/-
  The document's Twin. No statement is proved here.
-/
import Derived.Test.YtpepabggpappgaaPlainWrite
import Derived.Test.YtpepabggpappgaaPhase
namespace Go.Proofs.Ytpepabggpappgaa
open Go.RowKit

theorem flatW_one {l : List (Nat × ByteArray)} : ∀ u ∈ flatW l, u.oneCell' = true := by
  intro u hu
  unfold flatW at hu
  simp only [List.mem_flatMap] at hu
  obtain ⟨x, _, hu⟩ := hu
  simp at hu
  rcases hu with rfl | rfl <;> rfl
theorem texts_one {l : List ByteArray} : ∀ u ∈ l.map Value.string, u.oneCell' = true := by
  intro u hu
  obtain ⟨x, _, rfl⟩ := List.mem_map.1 hu
  rfl

theorem nodup_fresh {h : Nat} {a b c : Option Nat} (h1 : ∀ k, a = some k → h < k) (h2 : ∀ k, b = some k → h < k) (h3 : ∀ k, c = some k → h < k) (h12 : ∀ k, a = some k → b ≠ some k) (h13 : ∀ k, a = some k → c ≠ some k) (h23 : ∀ k, b = some k → c ≠ some k) :
    (h :: (a.toList ++ (b.toList ++ c.toList))).Nodup := by
  rcases a with _ | a <;> rcases b with _ | b <;> rcases c with _ | c <;> simp at h1 h2 h3 h12 h13 h23 ⊢ <;> (try omega)
  all_goals (refine ⟨?_, ?_⟩ <;> (try refine ⟨?_, ?_⟩) <;> (try intro hh) <;> omega)

set_option maxRecDepth 100000 in
set_option maxHeartbeats 4000000 in
theorem ptwin_any {w : World} {B : Nat} {O : List Nat} {g : Nat} {S : DS} (h : PlainAt w B O g S) (hns : S.now.length ≤ 100000 ∧ S.safe.length ≤ 100000 ∧ S.dirty.length ≤ 1000000000000) :
    Calls Try.prog 9 #[.pointer (some ⟨g, 0, none⟩)] w fun e w' => ∃ g' O', e = .returned (.pointer (some ⟨g', 0, none⟩)) ∧ PlainAt w' B O' g' S ∧ (∀ b ∈ O', w.heap.size ≤ b) ∧ Below w.heap.size w w' := by
  obtain ⟨vn, vs, vw, nv, ka, km, kc, -, h⟩ := h
  obtain ⟨pn, cn, rfl, -⟩ := row_slice h.now
  obtain ⟨ps, cs, rfl, -⟩ := row_slice h.safe
  obtain ⟨pw, cw, rfl, -⟩ := row_slice h.dirty
  have H := Lib.hid h
  have HNS := Lib.hid hns
  have c0 := h.blk.cell 0
  have c1 := h.blk.cell 1
  have c2 := h.blk.cell 2
  have c3 := h.blk.cell 3
  have c4 := h.blk.cell 4
  have c5 := h.blk.cell 5
  have c6 := h.blk.cell 6
  have c7 := h.blk.cell 7
  simp at c0 c1 c2 c3 c4 c5 c6 c7
  have hgl := h.blk.lt
  obtain ⟨so, hso⟩ : ∃ so, so = !S.on := ⟨_, rfl⟩
  obtain ⟨sa, hsa⟩ : ∃ sa, sa = S.armed := ⟨_, rfl⟩
  obtain ⟨sw, hsw⟩ : ∃ sw : Int, sw = (S.writes : Int) := ⟨_, rfl⟩
  obtain ⟨ln, hln⟩ : ∃ ln, ln = S.now.length := ⟨_, rfl⟩
  obtain ⟨ls, hls⟩ : ∃ ls, ls = S.safe.length := ⟨_, rfl⟩
  obtain ⟨lw, hlw⟩ : ∃ lw, lw = S.dirty.length := ⟨_, rfl⟩
  rw [← hso] at c3
  rw [← hsa] at c4
  rw [← hsw] at c7
  rw [← hln] at c0
  rw [← hls] at c1
  rw [← hlw] at c2
  have HQ := Lib.hid (And.intro hso (And.intro hsa (And.intro hsw (And.intro hln (And.intro hls hlw)))))
  clear hso hsa hsw hln hls hlw h hns
  go_enter Try.func9, Try.ntmps9
  go_upto_region 2 with fail
  obtain ⟨W, hW⟩ : ∃ W, W = w.alloc (.cells #[.slice pn ln cn, .slice ps ls cs, .slice pw lw cw, .bool so, .bool sa, .int .i64 nv, .slice ka km kc, .int .i64 sw] 58) := ⟨_, rfl⟩
  rw [← hW]
  have HBW : Hid (Below w.heap.size w W) := Lib.hid (by rw [hW]; exact (Below.refl _ _).alloc (Nat.le_refl _) _)
  have HSZ : Hid (W.heap.size = w.heap.size + 1) := Lib.hid (by rw [hW]; simp)
  have HNB : Hid (Blk W w.heap.size 58 #[.slice pn ln cn, .slice ps ls cs, .slice pw lw cw, .bool so, .bool sa, .int .i64 nv, .slice ka km kc, .int .i64 sw]) := Lib.hid (by rw [hW]; exact Blk.new w _ _)
  have HRW : Hid (W.ownsRow B 9 1 (.slice pn ln cn) ln (S.now.map Value.string) ∧ W.ownsRow B 9 1 (.slice ps ls cs) ls (S.safe.map Value.string) ∧ W.ownsRow B 84 2 (.slice pw lw cw) lw (flatW S.dirty)) := Lib.hid (by
    obtain ⟨-, -, -, q4, q5, q6⟩ := HQ.out
    rw [q4, q5, q6]
    exact ⟨row_below H.out.now HBW.out, row_below H.out.safe HBW.out, row_below H.out.dirty HBW.out⟩)
  have HC : Hid (∀ w', Below W.heap.size W w' → w'.cell? ⟨g, 0, none⟩ = some (.slice pn ln cn) ∧ w'.cell? ⟨g, 1, none⟩ = some (.slice ps ls cs) ∧ w'.cell? ⟨g, 2, none⟩ = some (.slice pw lw cw)) := Lib.hid (fun w' hb => by
    have hbb : w'.heap[g]? = w.heap[g]? := (hb.block g (by have := HSZ.out; omega)).trans (HBW.out.block g hgl)
    exact ⟨(World.cell?_of_block (a := ⟨g, 0, none⟩) hbb).trans c0, (World.cell?_of_block (a := ⟨g, 1, none⟩) hbb).trans c1, (World.cell?_of_block (a := ⟨g, 2, none⟩) hbb).trans c2⟩)
  clear hW c0 c1 c2 c3 c4 c5 c6 c7
  refine wp_region_fresh 7 15 21 6 (fun | 0 => .pointer (some ⟨g, 0, none⟩) | 1 => .pointer (some ⟨g, 0, none⟩) | 2 => .pointer (some ⟨g, 0, none⟩) | 3 => .slice pn ln cn | 5 => .pointer (some ⟨g, 0, none⟩) | 6 => .pointer (some ⟨g, 0, none⟩) | 7 => .pointer (some ⟨g, 1, none⟩) | 8 => .slice ps ls cs | 10 => .pointer (some ⟨g, 0, none⟩) | 11 => .pointer (some ⟨g, 0, none⟩) | 12 => .pointer (some ⟨g, 2, none⟩) | 13 => .slice pw lw cw | _ => undef) (fun | 4 => some ⟨9, 1, ln, S.now.map Value.string⟩ | 9 => some ⟨9, 1, ls, S.safe.map Value.string⟩ | 14 => some ⟨84, 2, lw, flatW S.dirty⟩ | _ => none) (by kernel_rfl) (by kernel_rfl) rfl (by omega) (by kernel_rfl) rfl (by simp) ?hval ?hrow ?hrest
  case hval =>
    intro i hi hr x w' hB hF hv
    obtain ⟨k0, k1, k2⟩ := HC.out w' hB
    rcases (show i = 0 ∨ i = 1 ∨ i = 2 ∨ i = 3 ∨ i = 4 ∨ i = 5 ∨ i = 6 ∨ i = 7 ∨ i = 8 ∨ i = 9 ∨ i = 10 ∨ i = 11 ∨ i = 12 ∨ i = 13 ∨ i = 14 by omega) with rfl | rfl | rfl | rfl | rfl | rfl | rfl | rfl | rfl | rfl | rfl | rfl | rfl | rfl | rfl
    · have t0 : x.tmps[0]?.getD undef = .pointer (some ⟨g, 0, none⟩) := by rw [hF.2.2 0 (by omega)]; rfl
      clear hv hF
      refine wpOp_value (v := .pointer (some ⟨g, 0, none⟩)) (w' := w') rfl rfl ?_ ⟨rfl, rfl⟩
      go_simp
    · have t0 : x.tmps[7]?.getD undef = .pointer (some ⟨g, 0, none⟩) := hv 0 (of_decide_eq_true (by kernel_rfl)) (by omega) rfl
      clear hv hF
      refine wpOp_value (v := .pointer (some ⟨g, 0, none⟩)) (w' := w') rfl rfl ?_ ⟨rfl, rfl⟩
      go_simp
    · have t0 : x.tmps[8]?.getD undef = .pointer (some ⟨g, 0, none⟩) := hv 1 (of_decide_eq_true (by kernel_rfl)) (by omega) rfl
      clear hv hF
      refine wpOp_value (v := .pointer (some ⟨g, 0, none⟩)) (w' := w') rfl rfl ?_ ⟨rfl, rfl⟩
      go_simp
    · have t0 : x.tmps[9]?.getD undef = .pointer (some ⟨g, 0, none⟩) := hv 2 (of_decide_eq_true (by kernel_rfl)) (by omega) rfl
      clear hv hF
      refine wpOp_value (v := .slice pn ln cn) (w' := w') rfl rfl ?_ ⟨rfl, rfl⟩
      go_simp
    · cases hr
    · have t0 : x.tmps[0]?.getD undef = .pointer (some ⟨g, 0, none⟩) := by rw [hF.2.2 0 (by omega)]; rfl
      clear hv hF
      refine wpOp_value (v := .pointer (some ⟨g, 0, none⟩)) (w' := w') rfl rfl ?_ ⟨rfl, rfl⟩
      go_simp
    · have t0 : x.tmps[12]?.getD undef = .pointer (some ⟨g, 0, none⟩) := hv 5 (of_decide_eq_true (by kernel_rfl)) (by omega) rfl
      clear hv hF
      refine wpOp_value (v := .pointer (some ⟨g, 0, none⟩)) (w' := w') rfl rfl ?_ ⟨rfl, rfl⟩
      go_simp
    · have t0 : x.tmps[13]?.getD undef = .pointer (some ⟨g, 0, none⟩) := hv 6 (of_decide_eq_true (by kernel_rfl)) (by omega) rfl
      clear hv hF
      refine wpOp_value (v := .pointer (some ⟨g, 1, none⟩)) (w' := w') rfl rfl ?_ ⟨rfl, rfl⟩
      go_simp
    · have t0 : x.tmps[14]?.getD undef = .pointer (some ⟨g, 1, none⟩) := hv 7 (of_decide_eq_true (by kernel_rfl)) (by omega) rfl
      clear hv hF
      refine wpOp_value (v := .slice ps ls cs) (w' := w') rfl rfl ?_ ⟨rfl, rfl⟩
      go_simp
    · cases hr
    · have t0 : x.tmps[0]?.getD undef = .pointer (some ⟨g, 0, none⟩) := by rw [hF.2.2 0 (by omega)]; rfl
      clear hv hF
      refine wpOp_value (v := .pointer (some ⟨g, 0, none⟩)) (w' := w') rfl rfl ?_ ⟨rfl, rfl⟩
      go_simp
    · have t0 : x.tmps[17]?.getD undef = .pointer (some ⟨g, 0, none⟩) := hv 10 (of_decide_eq_true (by kernel_rfl)) (by omega) rfl
      clear hv hF
      refine wpOp_value (v := .pointer (some ⟨g, 0, none⟩)) (w' := w') rfl rfl ?_ ⟨rfl, rfl⟩
      go_simp
    · have t0 : x.tmps[18]?.getD undef = .pointer (some ⟨g, 0, none⟩) := hv 11 (of_decide_eq_true (by kernel_rfl)) (by omega) rfl
      clear hv hF
      refine wpOp_value (v := .pointer (some ⟨g, 2, none⟩)) (w' := w') rfl rfl ?_ ⟨rfl, rfl⟩
      go_simp
    · have t0 : x.tmps[19]?.getD undef = .pointer (some ⟨g, 2, none⟩) := hv 12 (of_decide_eq_true (by kernel_rfl)) (by omega) rfl
      clear hv hF
      refine wpOp_value (v := .slice pw lw cw) (w' := w') rfl rfl ?_ ⟨rfl, rfl⟩
      go_simp
    · cases hr
  case hrow =>
    intro i r hi hr x w' hB hF hv
    rcases (show i = 0 ∨ i = 1 ∨ i = 2 ∨ i = 3 ∨ i = 4 ∨ i = 5 ∨ i = 6 ∨ i = 7 ∨ i = 8 ∨ i = 9 ∨ i = 10 ∨ i = 11 ∨ i = 12 ∨ i = 13 ∨ i = 14 by omega) with rfl | rfl | rfl | rfl | rfl | rfl | rfl | rfl | rfl | rfl | rfl | rfl | rfl | rfl | rfl
    · cases hr
    · cases hr
    · cases hr
    · cases hr
    · cases hr
      have t0 : x.tmps[10]?.getD undef = .slice pn ln cn := hv 3 (of_decide_eq_true (by kernel_rfl)) (by omega) rfl
      obtain ⟨i0, hi0, hz0, hz1, hz2⟩ := info_parts cltexts_info
      obtain ⟨v', w'', hr, ho, hb⟩ := append_copy (P := Try.prog) (w := w') 51 51 9 i0 (.string .empty) 1 16 Try.underlying51 hi0 hz0 hz1 hz2 rfl (by omega) (row_below HRW.out.1 hB) texts_one (by unfold maxLen; have := HQ.out; have := HNS.out; omega) (by have := HQ.out; have := HNS.out; omega)
      exact wpOp_value (v := v') (w' := w'') rfl rfl (exec_append rfl (by simp [Act.eval]) (by simpa [Act.eval] using t0) hr) ⟨v', rfl, ho, hb⟩
    · cases hr
    · cases hr
    · cases hr
    · cases hr
    · cases hr
      have t0 : x.tmps[15]?.getD undef = .slice ps ls cs := hv 8 (of_decide_eq_true (by kernel_rfl)) (by omega) rfl
      obtain ⟨i0, hi0, hz0, hz1, hz2⟩ := info_parts cltexts_info
      obtain ⟨v', w'', hr, ho, hb⟩ := append_copy (P := Try.prog) (w := w') 51 51 9 i0 (.string .empty) 1 16 Try.underlying51 hi0 hz0 hz1 hz2 rfl (by omega) (row_below HRW.out.2.1 hB) texts_one (by unfold maxLen; have := HQ.out; have := HNS.out; omega) (by have := HQ.out; have := HNS.out; omega)
      exact wpOp_value (v := v') (w' := w'') rfl rfl (exec_append rfl (by simp [Act.eval]) (by simpa [Act.eval] using t0) hr) ⟨v', rfl, ho, hb⟩
    · cases hr
    · cases hr
    · cases hr
    · cases hr
    · cases hr
      have t0 : x.tmps[20]?.getD undef = .slice pw lw cw := hv 13 (of_decide_eq_true (by kernel_rfl)) (by omega) rfl
      obtain ⟨i0, hi0, hz0, hz1, hz2⟩ := info_parts pwrite_info
      obtain ⟨v', w'', hr, ho, hb⟩ := append_copy (P := Try.prog) (w := w') 56 56 84 i0 (.agg #[.int .i64 0, .string .empty]) 2 24 Try.underlying56 hi0 hz0 hz1 hz2 rfl (by omega) (row_below HRW.out.2.2 hB) flatW_one (by unfold maxLen; have := HQ.out; have := HNS.out; omega) (by have := HQ.out; have := HNS.out; omega)
      exact wpOp_value (v := v') (w' := w'') rfl rfl (exec_append rfl (by simp [Act.eval]) (by simpa [Act.eval] using t0) hr) ⟨v', rfl, ho, hb⟩
  case hrest =>
    intro L f w' hL ⟨hB, hV, hR, hA⟩
    have r4 := hR 4 _ (by omega) (hL 4 (by omega)) rfl
    have r9 := hR 9 _ (by omega) (hL 9 (by omega)) rfl
    have r14 := hR 14 _ (by omega) (hL 14 (by omega)) rfl
    have a1 := hA 4 9 _ _ (by omega) (by omega) (by omega) (hL 4 (by omega)) (hL 9 (by omega)) rfl rfl
    have a2 := hA 4 14 _ _ (by omega) (by omega) (by omega) (hL 4 (by omega)) (hL 14 (by omega)) rfl rfl
    have a3 := hA 9 14 _ _ (by omega) (by omega) (by omega) (hL 9 (by omega)) (hL 14 (by omega)) rfl rfl
    obtain ⟨p4, d4, e4, -⟩ := row_slice r4
    obtain ⟨p9, d9, e9, -⟩ := row_slice r9
    obtain ⟨p14, d14, e14, -⟩ := row_slice r14
    simp only at e4 e9 e14
    rw [e4] at r4 a1 a2
    rw [e9] at r9 a1 a3
    rw [e14] at r14 a2 a3
    have R4 := Lib.hid r4
    have R9 := Lib.hid r9
    have R14 := Lib.hid r14
    have AP := Lib.hid (And.intro a1 (And.intro a2 a3))
    have HB := Lib.hid hB
    have bn : Blk w' w.heap.size 58 _ := HNB.out.below hB (by have := HSZ.out; omega)
    have HBN := Lib.hid bn
    have n0 := bn.cell 0
    have n1 := bn.cell 1
    have n2 := bn.cell 2
    have f0 := bn.frozen 0
    have f1 := bn.frozen 1
    have f2 := bn.frozen 2
    simp at n0 n1 n2
    clear r4 r9 r14 a1 a2 a3 hB hV hR hA hL bn
    rw [show List.range' 15 6 = [15, 16, 17, 18, 19, 20] from rfl]
    simp only [putAll, List.range, List.range.loop, List.foldl, Nat.reduceAdd, List.setIfInBounds_toArray, List.set_cons_succ, List.set_cons_zero, e4, e9, e14]
    clear e4 e9 e14
    rw [wpOps_cons]
    refine wpOp_value (v := .pointer (some ⟨w.heap.size, 0, none⟩)) (w' := w') rfl rfl (by go_simp) ?_
    rw [wpOps_cons]
    refine wpOp_skip (w' := w'.setCell ⟨w.heap.size, 0, none⟩ (.slice p4 ln d4)) rfl rfl (by simp only [Act.put, List.setIfInBounds_toArray]; go_simp) ?_
    obtain ⟨w1, hw1⟩ : ∃ w1, w1 = w'.setCell ⟨w.heap.size, 0, none⟩ (.slice p4 ln d4) := ⟨_, rfl⟩
    have b1 := HBN.out.put 0 (.slice p4 ln d4)
    rw [← hw1] at b1 ⊢
    have K1 : Hid (Keep [w.heap.size] w' w1) := Lib.hid (by rw [hw1]; exact (Keep.refl _ _).put (.inl (by simp)) _ _)
    clear hw1 n0 n1 n2 f0 f1 f2
    have n1 := b1.cell 1
    have f1 := b1.frozen 1
    simp at n1
    have B1 := Lib.hid b1
    clear b1
    rw [wpOps_cons]
    refine wpOp_value (v := .pointer (some ⟨w.heap.size, 1, none⟩)) (w' := w1) rfl rfl (by simp only [Act.put, List.setIfInBounds_toArray]; go_simp) ?_
    rw [wpOps_cons]
    refine wpOp_skip (w' := w1.setCell ⟨w.heap.size, 1, none⟩ (.slice p9 ls d9)) rfl rfl (by simp only [Act.put, List.setIfInBounds_toArray]; go_simp) ?_
    obtain ⟨w2, hw2⟩ : ∃ w2, w2 = w1.setCell ⟨w.heap.size, 1, none⟩ (.slice p9 ls d9) := ⟨_, rfl⟩
    have b2 := B1.out.put 1 (.slice p9 ls d9)
    rw [← hw2] at b2 ⊢
    have K2 : Hid (Keep [w.heap.size] w' w2) := Lib.hid (by rw [hw2]; exact K1.out.put (.inl (by simp)) _ _)
    clear hw2 n1 f1
    have n2 := b2.cell 2
    have f2 := b2.frozen 2
    simp at n2
    have B2 := Lib.hid b2
    clear b2
    rw [wpOps_cons]
    refine wpOp_value (v := .pointer (some ⟨w.heap.size, 2, none⟩)) (w' := w2) rfl rfl (by simp only [Act.put, List.setIfInBounds_toArray]; go_simp) ?_
    rw [wpOps_cons]
    refine wpOp_skip (w' := w2.setCell ⟨w.heap.size, 2, none⟩ (.slice p14 lw d14)) rfl rfl (by simp only [Act.put, List.setIfInBounds_toArray]; go_simp) ?_
    obtain ⟨w3, hw3⟩ : ∃ w3, w3 = w2.setCell ⟨w.heap.size, 2, none⟩ (.slice p14 lw d14) := ⟨_, rfl⟩
    have b3 := B2.out.put 2 (.slice p14 lw d14)
    rw [← hw3] at b3 ⊢
    have K3 : Hid (Keep [w.heap.size] w' w3) := Lib.hid (by rw [hw3]; exact K2.out.put (.inl (by simp)) _ _)
    have B3 := Lib.hid b3
    clear hw3 n2 f2 b3
    simp only [wpOps, Act.put, List.setIfInBounds_toArray]
    go_wp2_with fail
    go_ret
    have hsz := HSZ.out
    have l4 : ∀ k, (Value.slice p4 ln d4).ownBlock = some k → w.heap.size < k := fun k hk => by have := (R4.out.lt k hk).1; omega
    have l9 : ∀ k, (Value.slice p9 ls d9).ownBlock = some k → w.heap.size < k := fun k hk => by have := (R9.out.lt k hk).1; omega
    have l14 : ∀ k, (Value.slice p14 lw d14).ownBlock = some k → w.heap.size < k := fun k hk => by have := (R14.out.lt k hk).1; omega
    have hBg : B ≤ w.heap.size := by have := H.out.low; omega
    have kk : Below w.heap.size w w3 := (HBW.out.trans (Below.mono HB.out (by omega))).trans (K3.out.below (B := w.heap.size) (by intro b hb; rw [List.mem_singleton.1 hb]; exact Nat.le_refl _) (by have := HB.out.size; omega))
    obtain ⟨rfl, rfl, rfl, rfl, rfl, rfl⟩ := HQ.out
    refine ⟨w.heap.size, rfl, _, ⟨.slice p4 _ d4, .slice p9 _ d9, .slice p14 _ d14, nv, ka, km, kc, rfl, B3.out, ?_, ?_, ?_, fun hA => ?_, ?_, hBg⟩, ?_, kk⟩
    · exact row_keep (row_base R4.out (by omega)) K3.out (by intro k hk hm; have := l4 k hk; have := List.mem_singleton.1 hm; omega)
    · exact row_keep (row_base R9.out (by omega)) K3.out (by intro k hk hm; have := l9 k hk; have := List.mem_singleton.1 hm; omega)
    · exact row_keep (row_base R14.out (by omega)) K3.out (by intro k hk hm; have := l14 k hk; have := List.mem_singleton.1 hm; omega)
    · exact ⟨(H.out.arm hA).1, (H.out.arm hA).2.1, (H.out.arm hA).2.2.keep (Keep.of_below (O := []) kk) (by simp)⟩
    · exact nodup_fresh l4 l9 l14 AP.out.1 AP.out.2.1 AP.out.2.2
    · intro b hb
      simp only [List.mem_cons, List.mem_append, Option.mem_toList] at hb
      rcases hb with rfl | hb | hb | hb
      · exact Nat.le_refl _
      · have := l4 b hb; omega
      · have := l9 b hb; omega
      · have := l14 b hb; omega
end Go.Proofs.Ytpepabggpappgaa
