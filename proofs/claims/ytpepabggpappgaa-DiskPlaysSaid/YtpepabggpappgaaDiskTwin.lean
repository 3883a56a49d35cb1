/-
  A disk's Twin. No statement is proved here.
-/
import Derived.Test.YtpepabggpappgaaPlainTwin
namespace Go.Proofs.Ytpepabggpappgaa
open Go.RowKit

theorem row_clone {w : World} {base : Nat} {e : TypeId} {size n c : Nat} {p : Option Addr} {xs : List Value} (h : w.ownsRow base e size (.slice p n c) n xs) :
    (∀ ad, p = some ad → ∀ (j : Nat) (u : Value), xs[j]? = some u → w.cell? (ad.add j) = some u) ∧ (p = none → n = 0 ∧ c = 0) := by
  rcases h.2 with ⟨e1, e2⟩ | ⟨g, cap, cur, e1, hrest⟩
  · injection e1 with h1 h2 h3
    subst h1 h2 h3
    exact ⟨(fun _ h => by cases h), fun _ => ⟨rfl, rfl⟩⟩
  · injection e1 with h1 h2 h3
    subst h1 h3
    refine ⟨fun ad h' j u hu => ?_, fun h => by cases h⟩
    cases h'
    exact h.cells (g := g) rfl j u hu

set_option maxRecDepth 100000 in
set_option maxHeartbeats 8000000 in
theorem dtwin_any {w : World} {O : List Nat} {g : Nat} {S : DS} (h : DiskAt w O g S) (hns : 0 < S.now.length ∧ S.now.length ≤ 100000 ∧ 0 < S.safe.length ∧ S.safe.length ≤ 100000 ∧ S.dirty.length ≤ 1000000000 ∧ S.keep.length ≤ 1000000000) :
    Calls Try.prog 8 #[.pointer (some ⟨g, 0, none⟩)] w fun e w' => ∃ g', e = .returned (.pointer (some ⟨g', 0, none⟩)) ∧ ∃ O', DiskAt w' O' g' S ∧ (∀ b ∈ O', w.heap.size ≤ b) ∧ Below w.heap.size w w' := by
  obtain ⟨gn, gs, cn, cs, vd, vk, -, h⟩ := h
  obtain ⟨pd, cd, rfl, -⟩ := row_slice h.dirty
  obtain ⟨pk, ck, ek, -⟩ := row_slice h.keep
  subst ek
  have H := Lib.hid h
  have HNS := Lib.hid hns
  have c0 := h.blk.cell 0
  have c1 := h.blk.cell 1
  have c2 := h.blk.cell 2
  have c3 := h.blk.cell 3
  have c4 := h.blk.cell 4
  have c5 := h.blk.cell 5
  have c6 := h.blk.cell 6
  have c7 := h.blk.cell 7
  simp at c0 c1 c2 c3 c4 c5 c6 c7
  have hgl := h.blk.lt
  obtain ⟨so, hso⟩ : ∃ so, so = S.on := ⟨_, rfl⟩
  obtain ⟨sa, hsa⟩ : ∃ sa, sa = S.armed := ⟨_, rfl⟩
  obtain ⟨sw, hsw⟩ : ∃ sw : Int, sw = (S.writes : Int) := ⟨_, rfl⟩
  obtain ⟨sl, hsl⟩ : ∃ sl : Int, sl = (S.left : Int) := ⟨_, rfl⟩
  obtain ⟨ln, hln⟩ : ∃ ln, ln = S.now.length := ⟨_, rfl⟩
  obtain ⟨ls, hls⟩ : ∃ ls, ls = S.safe.length := ⟨_, rfl⟩
  obtain ⟨ld, hld⟩ : ∃ ld, ld = S.dirty.length := ⟨_, rfl⟩
  obtain ⟨lk, hlk⟩ : ∃ lk, lk = S.keep.length := ⟨_, rfl⟩
  rw [← hso] at c3
  rw [← hsw] at c4
  rw [← hsa] at c5
  rw [← hsl] at c6
  rw [← hln] at c0
  rw [← hls] at c1
  rw [← hld] at c2
  rw [← hlk] at c7
  have HQ := Lib.hid (And.intro hso (And.intro hsa (And.intro hsw (And.intro hsl (And.intro hln (And.intro hls (And.intro hld hlk)))))))
  clear hso hsa hsw hsl hln hls hld hlk h hns
  go_enter Try.func8, Try.ntmps8
  go_upto_region 4 with fail
  obtain ⟨W, hW⟩ : ∃ W, W = w.alloc (.cells #[.slice (some ⟨gn, 0, none⟩) ln cn, .slice (some ⟨gs, 0, none⟩) ls cs, .slice pd ld cd, .bool so, .int .i64 sw, .bool sa, .int .i64 sl, .slice pk lk ck] 55) := ⟨_, rfl⟩
  rw [← hW]
  have HBW : Hid (Below w.heap.size w W) := Lib.hid (by rw [hW]; exact (Below.refl _ _).alloc (Nat.le_refl _) _)
  have HSZ : Hid (W.heap.size = w.heap.size + 1) := Lib.hid (by rw [hW]; simp)
  have HNB : Hid (Blk W w.heap.size 55 #[.slice (some ⟨gn, 0, none⟩) ln cn, .slice (some ⟨gs, 0, none⟩) ls cs, .slice pd ld cd, .bool so, .int .i64 sw, .bool sa, .int .i64 sl, .slice pk lk ck]) := Lib.hid (by rw [hW]; exact Blk.new w _ _)
  have HRW : Hid (∀ w', Below w.heap.size w w' → w'.ownsRow 0 9 1 (.slice (some ⟨gn, 0, none⟩) ln cn) ln (S.now.map Value.string) ∧ w'.ownsRow 0 9 1 (.slice (some ⟨gs, 0, none⟩) ls cs) ls (S.safe.map Value.string) ∧ w'.ownsRow 0 42 2 (.slice pd ld cd) ld (flatW S.dirty) ∧ w'.ownsRow 0 3 1 (.slice pk lk ck) lk (S.keep.map (Value.int .i64))) := Lib.hid (fun w' hb => by
    obtain ⟨-, -, -, -, q4, q5, q6, q7⟩ := HQ.out
    rw [q4, q5, q6, q7]
    exact ⟨row_below H.out.now hb, row_below H.out.safe hb, row_below H.out.dirty hb, row_below H.out.keep hb⟩)
  have HCC : Hid (∀ w', Below w.heap.size w w' → w'.cell? ⟨g, 0, none⟩ = some (.slice (some ⟨gn, 0, none⟩) ln cn) ∧ w'.cell? ⟨g, 1, none⟩ = some (.slice (some ⟨gs, 0, none⟩) ls cs) ∧ w'.cell? ⟨g, 2, none⟩ = some (.slice pd ld cd) ∧ w'.cell? ⟨g, 7, none⟩ = some (.slice pk lk ck)) := Lib.hid (fun w' hb => by
    have hbb : w'.heap[g]? = w.heap[g]? := hb.block g hgl
    exact ⟨(World.cell?_of_block (a := ⟨g, 0, none⟩) hbb).trans c0, (World.cell?_of_block (a := ⟨g, 1, none⟩) hbb).trans c1, (World.cell?_of_block (a := ⟨g, 2, none⟩) hbb).trans c2, (World.cell?_of_block (a := ⟨g, 7, none⟩) hbb).trans c7⟩)
  have HC1 : Hid (∀ w', Below W.heap.size W w' → w'.cell? ⟨g, 0, none⟩ = some (.slice (some ⟨gn, 0, none⟩) ln cn) ∧ w'.cell? ⟨g, 1, none⟩ = some (.slice (some ⟨gs, 0, none⟩) ls cs)) := Lib.hid (fun w' hb =>
    have h := HCC.out w' (HBW.out.trans (Below.mono hb (by have := HSZ.out; omega)))
    ⟨h.1, h.2.1⟩)
  clear hW c0 c1 c2 c3 c4 c5 c6 c7
  refine wp_region_fresh (W := W) 9 10 18 4 (fun | 0 => .pointer (some ⟨g, 0, none⟩) | 1 => .pointer (some ⟨g, 0, none⟩) | 2 => .pointer (some ⟨g, 0, none⟩) | 3 => .slice (some ⟨gn, 0, none⟩) ln cn | 5 => .pointer (some ⟨g, 0, none⟩) | 6 => .pointer (some ⟨g, 0, none⟩) | 7 => .pointer (some ⟨g, 1, none⟩) | 8 => .slice (some ⟨gs, 0, none⟩) ls cs | _ => undef) (fun | 4 => some ⟨9, 1, ln, S.now.map Value.string⟩ | 9 => some ⟨9, 1, ls, S.safe.map Value.string⟩ | _ => none) (by kernel_rfl) (by kernel_rfl) rfl (by omega) (by kernel_rfl) rfl (by simp) ?hval1 ?hrow1 ?hrest1
  case hval1 =>
    intro i hi hr x w' hB hF hv
    obtain ⟨k0, k1⟩ := HC1.out w' hB
    rcases (show i = 0 ∨ i = 1 ∨ i = 2 ∨ i = 3 ∨ i = 4 ∨ i = 5 ∨ i = 6 ∨ i = 7 ∨ i = 8 ∨ i = 9 by omega) with rfl | rfl | rfl | rfl | rfl | rfl | rfl | rfl | rfl | rfl
    · have t0 : x.tmps[0]?.getD undef = .pointer (some ⟨g, 0, none⟩) := by rw [hF.2.2 0 (by omega)]; rfl
      clear hv hF
      refine wpOp_value (v := .pointer (some ⟨g, 0, none⟩)) (w' := w') rfl rfl ?_ ⟨rfl, rfl⟩
      go_simp
    · have t0 : x.tmps[9]?.getD undef = .pointer (some ⟨g, 0, none⟩) := hv 0 (of_decide_eq_true (by kernel_rfl)) (by omega) rfl
      clear hv hF
      refine wpOp_value (v := .pointer (some ⟨g, 0, none⟩)) (w' := w') rfl rfl ?_ ⟨rfl, rfl⟩
      go_simp
    · have t0 : x.tmps[10]?.getD undef = .pointer (some ⟨g, 0, none⟩) := hv 1 (of_decide_eq_true (by kernel_rfl)) (by omega) rfl
      clear hv hF
      refine wpOp_value (v := .pointer (some ⟨g, 0, none⟩)) (w' := w') rfl rfl ?_ ⟨rfl, rfl⟩
      go_simp
    · have t0 : x.tmps[11]?.getD undef = .pointer (some ⟨g, 0, none⟩) := hv 2 (of_decide_eq_true (by kernel_rfl)) (by omega) rfl
      clear hv hF
      refine wpOp_value (v := .slice (some ⟨gn, 0, none⟩) ln cn) (w' := w') rfl rfl ?_ ⟨rfl, rfl⟩
      go_simp
    · cases hr
    · have t0 : x.tmps[0]?.getD undef = .pointer (some ⟨g, 0, none⟩) := by rw [hF.2.2 0 (by omega)]; rfl
      clear hv hF
      refine wpOp_value (v := .pointer (some ⟨g, 0, none⟩)) (w' := w') rfl rfl ?_ ⟨rfl, rfl⟩
      go_simp
    · have t0 : x.tmps[14]?.getD undef = .pointer (some ⟨g, 0, none⟩) := hv 5 (of_decide_eq_true (by kernel_rfl)) (by omega) rfl
      clear hv hF
      refine wpOp_value (v := .pointer (some ⟨g, 0, none⟩)) (w' := w') rfl rfl ?_ ⟨rfl, rfl⟩
      go_simp
    · have t0 : x.tmps[15]?.getD undef = .pointer (some ⟨g, 0, none⟩) := hv 6 (of_decide_eq_true (by kernel_rfl)) (by omega) rfl
      clear hv hF
      refine wpOp_value (v := .pointer (some ⟨g, 1, none⟩)) (w' := w') rfl rfl ?_ ⟨rfl, rfl⟩
      go_simp
    · have t0 : x.tmps[16]?.getD undef = .pointer (some ⟨g, 1, none⟩) := hv 7 (of_decide_eq_true (by kernel_rfl)) (by omega) rfl
      clear hv hF
      refine wpOp_value (v := .slice (some ⟨gs, 0, none⟩) ls cs) (w' := w') rfl rfl ?_ ⟨rfl, rfl⟩
      go_simp
    · cases hr
  case hrow1 =>
    intro i r hi hr x w' hB hF hv
    rcases (show i = 0 ∨ i = 1 ∨ i = 2 ∨ i = 3 ∨ i = 4 ∨ i = 5 ∨ i = 6 ∨ i = 7 ∨ i = 8 ∨ i = 9 by omega) with rfl | rfl | rfl | rfl | rfl | rfl | rfl | rfl | rfl | rfl
    · cases hr
    · cases hr
    · cases hr
    · cases hr
    · cases hr
      have t0 : x.tmps[12]?.getD undef = .slice (some ⟨gn, 0, none⟩) ln cn := hv 3 (of_decide_eq_true (by kernel_rfl)) (by omega) rfl
      clear hv hF
      refine wpOp_call (f := 23) (args := #[.slice (some ⟨gn, 0, none⟩) ln cn]) rfl rfl (by go_simp) ((cltexts_any (some ⟨gn, 0, none⟩) ln cn S.now w' HQ.out.2.2.2.2.1.symm (row_clone ((HRW.out w' (HBW.out.trans (Below.mono hB (by have := HSZ.out; omega)))).1)).1 (row_clone ((HRW.out w' (HBW.out.trans (Below.mono hB (by have := HSZ.out; omega)))).1)).2 (by have := HQ.out; have := HNS.out; omega)).mono ?_)
      rintro e w'' ⟨v, rfl, ho, hb⟩
      exact ⟨v, rfl, v, rfl, ho, hb⟩
    · cases hr
    · cases hr
    · cases hr
    · cases hr
    · cases hr
      have t0 : x.tmps[17]?.getD undef = .slice (some ⟨gs, 0, none⟩) ls cs := hv 8 (of_decide_eq_true (by kernel_rfl)) (by omega) rfl
      clear hv hF
      refine wpOp_call (f := 23) (args := #[.slice (some ⟨gs, 0, none⟩) ls cs]) rfl rfl (by go_simp) ((cltexts_any (some ⟨gs, 0, none⟩) ls cs S.safe w' HQ.out.2.2.2.2.2.1.symm (row_clone ((HRW.out w' (HBW.out.trans (Below.mono hB (by have := HSZ.out; omega)))).2.1)).1 (row_clone ((HRW.out w' (HBW.out.trans (Below.mono hB (by have := HSZ.out; omega)))).2.1)).2 (by have := HQ.out; have := HNS.out; omega)).mono ?_)
      rintro e w'' ⟨v, rfl, ho, hb⟩
      exact ⟨v, rfl, v, rfl, ho, hb⟩
  case hrest1 =>
    intro L f w' hL ⟨hB, hV, hR, hA⟩
    have r4 := hR 4 _ (by omega) (hL 4 (by omega)) rfl
    have r9 := hR 9 _ (by omega) (hL 9 (by omega)) rfl
    have a1 := hA 4 9 _ _ (by omega) (by omega) (by omega) (hL 4 (by omega)) (hL 9 (by omega)) rfl rfl
    obtain ⟨np, nc, e4, -⟩ := row_slice r4
    obtain ⟨sp, sc, e9, -⟩ := row_slice r9
    simp only at e4 e9
    rw [e4] at r4 a1
    rw [e9] at r9 a1
    have R41 := Lib.hid r4
    have R91 := Lib.hid r9
    have AP1 := Lib.hid a1
    have HB1 := Lib.hid hB
    have bn : Blk w' w.heap.size 55 _ := HNB.out.below hB (by have := HSZ.out; omega)
    have HBN1 := Lib.hid bn
    have n0 := bn.cell 0
    have f0 := bn.frozen 0
    simp at n0
    clear r4 r9 a1 hB hV hR hA hL bn
    rw [show List.range' 10 4 = [10, 11, 12, 13] from rfl]
    simp only [putAll, List.range, List.range.loop, List.foldl, Nat.reduceAdd, List.setIfInBounds_toArray, List.set_cons_succ, List.set_cons_zero, e4, e9]
    clear e4 e9
    rw [wpOps_cons]
    refine wpOp_value (v := .pointer (some ⟨w.heap.size, 0, none⟩)) (w' := w') rfl rfl (by go_simp) ?_
    rw [wpOps_cons]
    refine wpOp_skip (w' := w'.setCell ⟨w.heap.size, 0, none⟩ (.slice np ln nc)) rfl rfl (by simp only [Act.put, List.setIfInBounds_toArray]; go_simp) ?_
    obtain ⟨u1, hu1⟩ : ∃ u1, u1 = w'.setCell ⟨w.heap.size, 0, none⟩ (.slice np ln nc) := ⟨_, rfl⟩
    have b1 := HBN1.out.put 0 (.slice np ln nc)
    rw [← hu1] at b1 ⊢
    have KI : Hid (Keep [w.heap.size] w' u1) := Lib.hid (by rw [hu1]; exact (Keep.refl _ _).put (.inl (by simp)) _ _)
    clear hu1 n0 f0
    have n1 := b1.cell 1
    have f1 := b1.frozen 1
    simp at n1
    have B1 := Lib.hid b1
    clear b1
    rw [wpOps_cons]
    refine wpOp_value (v := .pointer (some ⟨w.heap.size, 1, none⟩)) (w' := u1) rfl rfl (by simp only [Act.put, List.setIfInBounds_toArray]; go_simp) ?_
    rw [wpOps_cons]
    refine wpOp_skip (w' := u1.setCell ⟨w.heap.size, 1, none⟩ (.slice sp ls sc)) rfl rfl (by simp only [Act.put, List.setIfInBounds_toArray]; go_simp) ?_
    obtain ⟨z1, hz⟩ : ∃ z, z = u1.setCell ⟨w.heap.size, 1, none⟩ (.slice sp ls sc) := ⟨_, rfl⟩
    have b2 := B1.out.put 1 (.slice sp ls sc)
    rw [← hz] at b2 ⊢
    have K1 : Hid (Keep [w.heap.size] w' z1) := Lib.hid (by rw [hz]; exact KI.out.put (.inl (by simp)) _ _)
    have BZ1 := Lib.hid b2
    clear hz n1 f1 b2 B1 KI
    simp only [wpOps, Act.put, List.setIfInBounds_toArray]
    go_upto_region 5 with fail
    have HBW4 : Hid (Below w.heap.size w z1) := Lib.hid ((HBW.out.trans (Below.mono HB1.out (by have := HSZ.out; omega))).trans (K1.out.below (B := w.heap.size) (by intro b hb; rw [List.mem_singleton.1 hb]; exact Nat.le_refl _) (by have := HB1.out.size; have := HSZ.out; omega)))
    have HSZ4 : Hid (w.heap.size ≤ z1.heap.size) := Lib.hid HBW4.out.size
    have HZS : Hid (w.heap.size < z1.heap.size) := Lib.hid BZ1.out.lt
    have HRN : Hid (z1.ownsRow W.heap.size 9 1 (.slice np ln nc) ln (S.now.map Value.string) ∧ z1.ownsRow W.heap.size 9 1 (.slice sp ls sc) ls (S.safe.map Value.string)) := Lib.hid (by
      have hs := HSZ.out
      refine ⟨row_keep R41.out K1.out (fun k hk hm => ?_), row_keep R91.out K1.out (fun k hk hm => ?_)⟩
      · have := (R41.out.lt k hk).1; have := List.mem_singleton.1 hm; omega
      · have := (R91.out.lt k hk).1; have := List.mem_singleton.1 hm; omega)
    have HC2 : Hid (∀ w', Below z1.heap.size z1 w' → w'.cell? ⟨g, 2, none⟩ = some (.slice pd ld cd) ∧ w'.cell? ⟨g, 7, none⟩ = some (.slice pk lk ck)) := Lib.hid (fun w' hb =>
      have h := HCC.out w' (HBW4.out.trans (Below.mono hb HSZ4.out))
      ⟨h.2.2.1, h.2.2.2⟩)
    refine wp_region_fresh (W := z1) 21 10 30 4 (fun | 0 => .pointer (some ⟨g, 0, none⟩) | 1 => .pointer (some ⟨g, 0, none⟩) | 2 => .pointer (some ⟨g, 2, none⟩) | 3 => .slice pd ld cd | 5 => .pointer (some ⟨g, 0, none⟩) | 6 => .pointer (some ⟨g, 0, none⟩) | 7 => .pointer (some ⟨g, 7, none⟩) | 8 => .slice pk lk ck | _ => undef) (fun | 4 => some ⟨42, 2, ld, flatW S.dirty⟩ | 9 => some ⟨3, 1, lk, S.keep.map (Value.int .i64)⟩ | _ => none) (by kernel_rfl) (by kernel_rfl) rfl (by omega) (by kernel_rfl) rfl (by simp) ?hval2 ?hrow2 ?hrest2
    case hval2 =>
      intro i hi hr x w' hB hF hv
      obtain ⟨k0, k1⟩ := HC2.out w' hB
      rcases (show i = 0 ∨ i = 1 ∨ i = 2 ∨ i = 3 ∨ i = 4 ∨ i = 5 ∨ i = 6 ∨ i = 7 ∨ i = 8 ∨ i = 9 by omega) with rfl | rfl | rfl | rfl | rfl | rfl | rfl | rfl | rfl | rfl
      · have t0 : x.tmps[0]?.getD undef = .pointer (some ⟨g, 0, none⟩) := by rw [hF.2.2 0 (by omega)]; rfl
        clear hv hF
        refine wpOp_value (v := .pointer (some ⟨g, 0, none⟩)) (w' := w') rfl rfl ?_ ⟨rfl, rfl⟩
        go_simp
      · have t0 : x.tmps[21]?.getD undef = .pointer (some ⟨g, 0, none⟩) := hv 0 (of_decide_eq_true (by kernel_rfl)) (by omega) rfl
        clear hv hF
        refine wpOp_value (v := .pointer (some ⟨g, 0, none⟩)) (w' := w') rfl rfl ?_ ⟨rfl, rfl⟩
        go_simp
      · have t0 : x.tmps[22]?.getD undef = .pointer (some ⟨g, 0, none⟩) := hv 1 (of_decide_eq_true (by kernel_rfl)) (by omega) rfl
        clear hv hF
        refine wpOp_value (v := .pointer (some ⟨g, 2, none⟩)) (w' := w') rfl rfl ?_ ⟨rfl, rfl⟩
        go_simp
      · have t0 : x.tmps[23]?.getD undef = .pointer (some ⟨g, 2, none⟩) := hv 2 (of_decide_eq_true (by kernel_rfl)) (by omega) rfl
        clear hv hF
        refine wpOp_value (v := .slice pd ld cd) (w' := w') rfl rfl ?_ ⟨rfl, rfl⟩
        go_simp
      · cases hr
      · have t0 : x.tmps[0]?.getD undef = .pointer (some ⟨g, 0, none⟩) := by rw [hF.2.2 0 (by omega)]; rfl
        clear hv hF
        refine wpOp_value (v := .pointer (some ⟨g, 0, none⟩)) (w' := w') rfl rfl ?_ ⟨rfl, rfl⟩
        go_simp
      · have t0 : x.tmps[26]?.getD undef = .pointer (some ⟨g, 0, none⟩) := hv 5 (of_decide_eq_true (by kernel_rfl)) (by omega) rfl
        clear hv hF
        refine wpOp_value (v := .pointer (some ⟨g, 0, none⟩)) (w' := w') rfl rfl ?_ ⟨rfl, rfl⟩
        go_simp
      · have t0 : x.tmps[27]?.getD undef = .pointer (some ⟨g, 0, none⟩) := hv 6 (of_decide_eq_true (by kernel_rfl)) (by omega) rfl
        clear hv hF
        refine wpOp_value (v := .pointer (some ⟨g, 7, none⟩)) (w' := w') rfl rfl ?_ ⟨rfl, rfl⟩
        go_simp
      · have t0 : x.tmps[28]?.getD undef = .pointer (some ⟨g, 7, none⟩) := hv 7 (of_decide_eq_true (by kernel_rfl)) (by omega) rfl
        clear hv hF
        refine wpOp_value (v := .slice pk lk ck) (w' := w') rfl rfl ?_ ⟨rfl, rfl⟩
        go_simp
      · cases hr
    case hrow2 =>
      intro i r hi hr x w' hB hF hv
      rcases (show i = 0 ∨ i = 1 ∨ i = 2 ∨ i = 3 ∨ i = 4 ∨ i = 5 ∨ i = 6 ∨ i = 7 ∨ i = 8 ∨ i = 9 by omega) with rfl | rfl | rfl | rfl | rfl | rfl | rfl | rfl | rfl | rfl
      · cases hr
      · cases hr
      · cases hr
      · cases hr
      · cases hr
        have t0 : x.tmps[24]?.getD undef = .slice pd ld cd := hv 3 (of_decide_eq_true (by kernel_rfl)) (by omega) rfl
        clear hv hF
        refine wpOp_call (f := 24) (args := #[.slice pd ld cd]) rfl rfl (by go_simp) ((clwrites_any pd ld cd S.dirty w' HQ.out.2.2.2.2.2.2.1.symm (row_clone ((HRW.out w' (HBW4.out.trans (Below.mono hB HSZ4.out))).2.2.1)).1 (row_clone ((HRW.out w' (HBW4.out.trans (Below.mono hB HSZ4.out))).2.2.1)).2 (by have := HQ.out; have := HNS.out; omega)).mono ?_)
        rintro e w'' ⟨v, rfl, ho, hb⟩
        exact ⟨v, rfl, v, rfl, ho, hb⟩
      · cases hr
      · cases hr
      · cases hr
      · cases hr
      · cases hr
        have t0 : x.tmps[29]?.getD undef = .slice pk lk ck := hv 8 (of_decide_eq_true (by kernel_rfl)) (by omega) rfl
        clear hv hF
        refine wpOp_call (f := 25) (args := #[.slice pk lk ck]) rfl rfl (by go_simp) ((clints_any pk lk ck S.keep w' HQ.out.2.2.2.2.2.2.2.symm (row_clone ((HRW.out w' (HBW4.out.trans (Below.mono hB HSZ4.out))).2.2.2)).1 (row_clone ((HRW.out w' (HBW4.out.trans (Below.mono hB HSZ4.out))).2.2.2)).2 (by have := HQ.out; have := HNS.out; omega)).mono ?_)
        rintro e w'' ⟨v, rfl, ho, hb⟩
        exact ⟨v, rfl, v, rfl, ho, hb⟩
    case hrest2 =>
      intro L f w' hL ⟨hB, hV, hR, hA⟩
      have r4 := hR 4 _ (by omega) (hL 4 (by omega)) rfl
      have r9 := hR 9 _ (by omega) (hL 9 (by omega)) rfl
      have a1 := hA 4 9 _ _ (by omega) (by omega) (by omega) (hL 4 (by omega)) (hL 9 (by omega)) rfl rfl
      obtain ⟨dp, dc, e4, -⟩ := row_slice r4
      obtain ⟨kp, kc, e9, -⟩ := row_slice r9
      simp only at e4 e9
      rw [e4] at r4 a1
      rw [e9] at r9 a1
      have R42 := Lib.hid r4
      have R92 := Lib.hid r9
      have AP2 := Lib.hid a1
      have HB2 := Lib.hid hB
      have bn : Blk w' w.heap.size 55 _ := BZ1.out.below hB (by have := HZS.out; omega)
      have HBN2 := Lib.hid bn
      have n0 := bn.cell 2
      have f0 := bn.frozen 2
      simp at n0
      clear r4 r9 a1 hB hV hR hA hL bn
      rw [show List.range' 10 4 = [10, 11, 12, 13] from rfl]
      simp only [putAll, List.range, List.range.loop, List.foldl, Nat.reduceAdd, e4, e9]
      clear e4 e9
      rw [wpOps_cons]
      refine wpOp_value (v := .pointer (some ⟨w.heap.size, 2, none⟩)) (w' := w') rfl rfl (by go_simp) ?_
      rw [wpOps_cons]
      refine wpOp_skip (w' := w'.setCell ⟨w.heap.size, 2, none⟩ (.slice dp ld dc)) rfl rfl (by simp only [Act.put]; go_simp) ?_
      obtain ⟨u1, hu1⟩ : ∃ u1, u1 = w'.setCell ⟨w.heap.size, 2, none⟩ (.slice dp ld dc) := ⟨_, rfl⟩
      have b1 := HBN2.out.put 2 (.slice dp ld dc)
      rw [← hu1] at b1 ⊢
      have KI : Hid (Keep [w.heap.size] w' u1) := Lib.hid (by rw [hu1]; exact (Keep.refl _ _).put (.inl (by simp)) _ _)
      clear hu1 n0 f0
      have n1 := b1.cell 7
      have f1 := b1.frozen 7
      simp at n1
      have B1 := Lib.hid b1
      clear b1
      rw [wpOps_cons]
      refine wpOp_value (v := .pointer (some ⟨w.heap.size, 7, none⟩)) (w' := u1) rfl rfl (by simp only [Act.put]; go_simp) ?_
      rw [wpOps_cons]
      refine wpOp_skip (w' := u1.setCell ⟨w.heap.size, 7, none⟩ (.slice kp lk kc)) rfl rfl (by simp only [Act.put]; go_simp) ?_
      obtain ⟨z2, hz⟩ : ∃ z, z = u1.setCell ⟨w.heap.size, 7, none⟩ (.slice kp lk kc) := ⟨_, rfl⟩
      have b2 := B1.out.put 7 (.slice kp lk kc)
      rw [← hz] at b2 ⊢
      have K2 : Hid (Keep [w.heap.size] w' z2) := Lib.hid (by rw [hz]; exact KI.out.put (.inl (by simp)) _ _)
      have BZ2 := Lib.hid b2
      clear hz n1 f1 b2 B1 KI
      simp only [wpOps, Act.put]
      go_wp2_with fail
      go_ret
      have hs := HSZ.out
      obtain ⟨rn, rs⟩ := HRN.out
      have ln1 : ∀ k, (Value.slice np ln nc).ownBlock = some k → W.heap.size ≤ k ∧ k < z1.heap.size := fun k hk => rn.lt k hk
      have ls1 : ∀ k, (Value.slice sp ls sc).ownBlock = some k → W.heap.size ≤ k ∧ k < z1.heap.size := fun k hk => rs.lt k hk
      have ld1 : ∀ k, (Value.slice dp ld dc).ownBlock = some k → z1.heap.size ≤ k := fun k hk => (R42.out.lt k hk).1
      have lk1 : ∀ k, (Value.slice kp lk kc).ownBlock = some k → z1.heap.size ≤ k := fun k hk => (R92.out.lt k hk).1
      have hz := HZS.out
      have kz : Keep [w.heap.size] z1 z2 := (Keep.of_below HB2.out).trans K2.out (fun _ hb => .inl hb)
      have kk : Below w.heap.size w z2 := HBW4.out.trans (kz.below (B := w.heap.size) (by intro b hb; rw [List.mem_singleton.1 hb]; exact Nat.le_refl _) (by omega))
      obtain ⟨rfl, rfl, rfl, rfl, rfl, rfl, rfl, rfl⟩ := HQ.out
      obtain ⟨gn', cn', e1, _, _⟩ := rn.form HNS.out.1
      obtain ⟨gs', cs', e2, _, _⟩ := rs.form HNS.out.2.2.1
      injection e1 with e1 _ e1'
      injection e2 with e2 _ e2'
      subst e1 e1' e2 e2'
      have m1 := ln1 gn' rfl
      have m2 := ls1 gs' rfl
      have m3 : gn' ≠ gs' := fun e => AP1.out gn' rfl (by rw [e]; rfl)
      refine ⟨w.heap.size, rfl, _, ⟨gn', gs', nc, sc, .slice dp _ dc, .slice kp _ kc, rfl, BZ2.out, ?_, ?_, ?_, ?_, ?_⟩, ?_, kk⟩
      · exact row_keep (row_base rn (Nat.zero_le _)) kz (by intro k hk hm; have := (ln1 k hk).1; have := List.mem_singleton.1 hm; omega)
      · exact row_keep (row_base rs (Nat.zero_le _)) kz (by intro k hk hm; have := (ls1 k hk).1; have := List.mem_singleton.1 hm; omega)
      · exact row_keep (row_base R42.out (Nat.zero_le _)) K2.out (by intro k hk hm; have := ld1 k hk; have := List.mem_singleton.1 hm; omega)
      · exact row_keep (row_base R92.out (Nat.zero_le _)) K2.out (by intro k hk hm; have := lk1 k hk; have := List.mem_singleton.1 hm; omega)
      · have h5 := nodup_fresh (h := gs') (a := (Value.slice dp S.dirty.length dc).ownBlock) (b := (Value.slice kp S.keep.length kc).ownBlock) (c := none) (fun k hk => by have := ld1 k hk; omega) (fun k hk => by have := lk1 k hk; omega) (by simp) AP2.out (by simp) (by simp)
        simp only [Option.toList_none, List.append_nil] at h5
        have n1 : ∀ b, b ∈ (Value.slice dp S.dirty.length dc).ownBlock.toList ++ (Value.slice kp S.keep.length kc).ownBlock.toList → z1.heap.size ≤ b := by
          intro b hb
          simp only [List.mem_append, Option.mem_toList] at hb
          rcases hb with hb | hb
          · exact ld1 b hb
          · exact lk1 b hb
        rw [List.nodup_cons, List.nodup_cons]
        refine ⟨?_, ?_, h5⟩
        · intro hm
          rcases List.mem_cons.1 hm with hm | hm
          · omega
          · rcases List.mem_cons.1 hm with hm | hm
            · omega
            · have := n1 _ hm; omega
        · intro hm
          rcases List.mem_cons.1 hm with hm | hm
          · exact m3 hm
          · have := n1 _ hm; omega
      · intro b hb
        simp only [List.mem_cons, List.mem_append, Option.mem_toList] at hb
        rcases hb with rfl | rfl | rfl | hb | hb
        · exact Nat.le_refl _
        · omega
        · omega
        · have := ld1 b hb; omega
        · have := lk1 b hb; omega
end Go.Proofs.Ytpepabggpappgaa
