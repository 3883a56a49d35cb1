/-
  Package wal: the head of several writes, and what is written ahead of home and home. No statement is proved here.
-/
import Derived.Test.YtiagofgcinlnhaaGreatDoorCrcOf
import Derived.Test.YtiagofgcinlnhaaGreatDoorHeadRead
import Derived.Sort.OwnSortedInts
import Derived.BigCall
import Derived.Lib.SliceRun
import Derived.Deep.AppendLies
import Derived.Test.YtiagofgcinlnhaaGreatDoorGrow
import Derived.Test.YtiagofgcinlnhaaGreatDoorPutPure
import Derived.Test.YtiagofgcinlnhaaGreatDoorBookWrites
namespace Go.Proofs.YtiagofgcinlnhaaGreatDoor
open Go.RowKit Go.Sort
theorem hcl_info : (Tryz.prog.info? 3).map (fun i => (i.zero, i.size, i.bytes)) = some (some (.int .i64 0), 1, 8) := by kernel_rfl
set_option maxRecDepth 100000 in
set_option maxHeartbeats 1000000 in
theorem hclone_any (A : Option Addr) (m c : Nat) (l : List Int) (w : World) (hl : l.length = m) (hA : ∀ ad, A = some ad → ∀ (j : Nat) (u : Value), (l.map (Value.int .i64))[j]? = some u → w.cell? (ad.add j) = some u) (h0 : A = none → m = 0 ∧ c = 0) (hm : m ≤ 1000000000000) :
    Calls Tryz.prog 63 #[.slice A m c] w fun e w' => ∃ v, e = .returned v ∧ w'.ownsRow w.heap.size 3 1 v m (l.map (Value.int .i64)) ∧ Below w.heap.size w w' := by
  obtain ⟨i0, hi, hz0, hz1, hz2⟩ := info_parts hcl_info
  have HM := Lib.hid hl
  have H0 := Lib.hid h0
  rcases A with _ | ad
  · obtain ⟨rfl, rfl⟩ := h0 rfl
    have hxs : l = [] := List.eq_nil_of_length_eq_zero hl
    subst hxs
    have q : ∀ w, (binOp .eql 39 (.slice none 0 0) (.slice none 0 0)).run Tryz.prog w = .ok (.bool true) w := fun w => Lib.run_eql_slice_nil w 39 _ none 0 0 0 0 Tryz.underlying39
    clear hA h0 hl
    go_enter Tryz.func63, Tryz.ntmps63
    go_wp2_with fail
    go_ret
    exact ⟨_, rfl, World.ownsRow_nil _ _ _ _, Below.refl _ _⟩
  · have hone : ∀ u ∈ (l.map (Value.int .i64)), u.oneCell' = true := by
      intro u hu
      obtain ⟨x, _, rfl⟩ := List.mem_map.1 hu
      rfl
    have HN := Lib.hid (hA ad rfl)
    have HO := Lib.hid hone
    have HE : Hid ((w.alloc (.cells #[] 3)).ownsRow w.heap.size 3 1 (.slice (some ⟨w.heap.size, 0, none⟩) 0 0) 0 []) := Lib.hid (World.ownsRow_made w #[] 0 (Nat.le_refl _) (by decide) rfl)
    have HC : Hid ((l.map (Value.int .i64)).length = m * 1) := Lib.hid (by rw [List.length_map, hl]; omega)
    have HB : Hid (Below w.heap.size w (w.alloc (.cells #[] 3))) := Lib.hid ((Below.refl _ _).alloc (Nat.le_refl _) _)
    have HNN : Hid (∀ (j : Nat) (u : Value), (l.map (Value.int .i64))[j]? = some u → (w.alloc (.cells #[] 3)).cell? (ad.add j) = some u) := Lib.hid (fun j u hu => by
      have h1 := HN.out j u hu
      have hlt := World.block_lt_of_cell? w _ h1
      rw [World.cell?_of_block (Below.heap_alloc w _ _ hlt)]
      exact h1)
    have q : ∀ w, (binOp .eql 39 (.slice (some ad) m c) (.slice none 0 0)).run Tryz.prog w = .ok (.bool false) w := fun w => Lib.run_eql_slice_nil w 39 _ (some ad) m c 0 0 Tryz.underlying39
    clear hA h0 hone hl
    go_enter Tryz.func63, Tryz.ntmps63
    go_wp2_with (at_builtin; refine wpList_append_own _ rfl _ _ 39 rfl w.heap.size 3 i0 (.int .i64 0) 1 8 Tryz.underlying39 hi hz0 hz1 hz2 rfl (by omega) (.slice (some ⟨w.heap.size, 0, none⟩) 0 0) 0 [] rfl HE.out ad m c (l.map (Value.int .i64)) rfl HC.out HNN.out HO.out (by unfold maxLen; omega) (by omega) (by simp) ?_; intro v1 w1 hown1 hg1 _)
    have hb1 : Below w.heap.size w w1 := HB.out.grown hg1 (by simp) (by simp [Value.ownBlock])
    have HOW := Lib.hid hown1
    clear hown1 hg1
    go_ret
    exact ⟨v1, rfl, by simpa using HOW.out, hb1⟩
def putOnce (l : List Int) : List Int := Lib.compact (l.mergeSort fun x y => decide (x ≤ y))
theorem keeps_sorted {s : List Int} (hs : s.Pairwise (fun x y => decide (x ≤ y) = true)) (hr : ∀ x ∈ s, 0 ≤ x ∧ x < 2000) : ∀ m, m ≤ s.length →
    riseB 0 (Lib.compactUpTo s.toArray m) = true ∧ (∀ y ∈ Lib.compactUpTo s.toArray m, ∃ k, k < m ∧ s[k]? = some y) ∧ (0 < m → 0 < (Lib.compactUpTo s.toArray m).length) ∧ (Lib.compactUpTo s.toArray m).length ≤ m := by
  intro m
  induction m with
  | zero => intro _; exact ⟨rfl, (fun y hy => by cases hy), (fun h => by omega), Nat.le_refl _⟩
  | succ m ih =>
    intro hm
    obtain ⟨h1, h2, h3, h4⟩ := ih (by omega)
    rw [Lib.compactUpTo_succ]
    have hx : s[m]? = some s[m] := List.getElem?_eq_getElem (by omega)
    have hget : s.toArray[m]! = s[m] := by rw [getElem!_pos s.toArray m (by simpa using by omega)]; simp
    have hxr := hr s[m] (List.getElem_mem _)
    have hle : ∀ k (hk : k < m), s[k]'(by omega) ≤ s[m] := fun k hk => by
      have := List.pairwise_iff_getElem.1 hs k m (by omega) (by omega) hk
      simpa using this
    by_cases hkp : Lib.keeps s.toArray m = true
    · rw [if_pos hkp, hget]
      refine ⟨riseB_snoc _ 0 _ h1 (fun y hy => ?_) hxr.1 hxr.2, fun y hy => ?_, fun _ => by simp, by simp; omega⟩
      · obtain ⟨k, hk, hky⟩ := h2 y hy
        have hm0 : 0 < m := by omega
        have hprev : s.toArray[m - 1]! = s[m - 1]'(by omega) := by rw [getElem!_pos s.toArray (m - 1) (by simpa using by omega)]; simp
        unfold Lib.keeps at hkp
        have hkp := of_decide_eq_true hkp
        rcases hkp with hkp | hkp
        · omega
        · rw [hget, hprev] at hkp
          have h5 := hle (m - 1) (by omega)
          have h6 : y ≤ s[m - 1]'(by omega) := by
            have hkk : s[k]'(by omega) = y := by
              rw [List.getElem?_eq_getElem (by omega)] at hky
              exact Option.some.inj hky
            rcases Nat.lt_or_ge k (m - 1) with h7 | h7
            · have := List.pairwise_iff_getElem.1 hs k (m - 1) (by omega) (by omega) h7
              rw [hkk] at this
              simpa using this
            · have : k = m - 1 := by omega
              subst this
              omega
          omega
      · rcases List.mem_append.1 hy with hy | hy
        · obtain ⟨k, hk, hky⟩ := h2 y hy
          exact ⟨k, by omega, hky⟩
        · have := List.mem_singleton.1 hy
          subst this
          exact ⟨m, by omega, hx⟩
    · rw [if_neg hkp, List.append_nil]
      refine ⟨h1, fun y hy => ?_, fun _ => ?_, by omega⟩
      · obtain ⟨k, hk, hky⟩ := h2 y hy
        exact ⟨k, by omega, hky⟩
      · apply h3
        rcases Nat.eq_zero_or_pos m with h | h
        · subst h
          exact absurd (show Lib.keeps s.toArray 0 = true by simp [Lib.keeps]) hkp
        · exact h
theorem putOnce_ok {l : List Int} (hr : ∀ x ∈ l, 0 ≤ x ∧ x < 2000) : riseB 0 (putOnce l) = true ∧ (0 < l.length → 0 < (putOnce l).length) ∧ (putOnce l).length ≤ l.length := by
  have hp : (l.mergeSort fun x y => decide (x ≤ y)).Pairwise (fun x y => decide (x ≤ y) = true) := List.pairwise_mergeSort (by intro a b c h1 h2; simp at *; omega) (by intro a b; simp; omega) l
  have hl : (l.mergeSort fun x y => decide (x ≤ y)).length = l.length := List.length_mergeSort _
  obtain ⟨h1, _, h3, h4⟩ := keeps_sorted hp (fun x hx => hr x (List.mem_mergeSort.1 hx)) _ (Nat.le_refl _)
  rw [hl] at h3 h4
  exact ⟨by unfold putOnce Lib.compact; exact h1, fun h => by unfold putOnce Lib.compact; rw [hl]; exact h3 h, by unfold putOnce Lib.compact; rw [hl]; exact h4⟩
open Go.RowKit
theorem row_prefix {w : World} {base g m c k : Nat} {e : TypeId} {xs : List Value} (h : w.ownsRow base e 1 (.slice (some ⟨g, 0, none⟩) m c) m xs) (hk : k ≤ m) : w.ownsRow base e 1 (.slice (some ⟨g, 0, none⟩) k c) k (xs.take k) := by
  have hl := h.1
  refine ⟨by rw [List.length_take]; omega, ?_⟩
  rcases h.2 with ⟨h, _⟩ | ⟨g', cap', cur, h, hb, hg, h1, h2, h3, h4⟩
  · cases h
  · injection h with e1 _ e3
    injection e1 with e1
    injection e1 with e1 _ _
    subst e1 e3
    refine .inr ⟨g, c, cur, rfl, hb, hg, by omega, h2, h3, ?_⟩
    simp only [Nat.mul_one] at h4 ⊢
    rw [← h4, List.take_take, Nat.min_eq_left hk]
set_option maxRecDepth 100000 in
set_option maxHeartbeats 4000000 in
theorem hnext_own (h : HD) (A : Option Addr) (c : Nat) (X : Option Addr) (m cx : Nat) (l : List Int) (w : World) (hm : l.length = m) (hx : Ints w w.heap.size X l) (h0 : X = none → m = 0 ∧ cx = 0) (hq : 0 ≤ h.seq ∧ h.seq ≤ 1099511627776) (hb : m ≤ 1000000) :
    Calls Tryz.prog 120 #[h.val A c, .slice X m cx] w fun e w' => ∃ A' c', e = .returned ((HD.mk (h.seq + 1) true (putOnce l)).val A' c') ∧ w'.ownsRow w.heap.size 3 1 (.slice A' (putOnce l).length c') (putOnce l).length ((putOnce l).map (Value.int .i64)) ∧ Below w.heap.size w w' := by
  obtain ⟨seq, full, ts⟩ := h
  simp only at hq
  obtain ⟨q0, q1⟩ := hq
  unfold HD.val
  simp only
  have HX := Lib.hid hx
  have HM := Lib.hid hm
  have HCL : Hid (∀ W, Below w.heap.size w W → Calls Tryz.prog 63 #[.slice X m cx] W fun e w' => ∃ v, e = .returned v ∧ w'.ownsRow W.heap.size 3 1 v m (l.map (Value.int .i64)) ∧ Below W.heap.size W w') := Lib.hid (fun W hW => by
    refine hclone_any X m cx l W hm (fun ad e j u hu => ?_) h0 (by omega)
    subst e
    have hj : j < l.length := by
      rcases Nat.lt_or_ge j l.length with h | h
      · exact h
      · rw [List.getElem?_eq_none (by rw [List.length_map]; exact h)] at hu; cases hu
    obtain ⟨b, off, e, hbb, hc⟩ := hx (by omega)
    injection e with e
    subst e
    rw [List.getElem?_map] at hu
    obtain ⟨x, hx', rfl⟩ := Option.map_eq_some_iff.1 hu
    rw [Go.WideShapes.add_plain]
    exact (hW.cell (p := ⟨b, off + j, none⟩) hbb).trans (hc j x hx'))
  obtain ⟨tl, htl⟩ : ∃ tl, tl = ts.length := ⟨_, rfl⟩
  rw [← htl]
  clear hx hm h0 htl
  go_enter Tryz.func120, Tryz.ntmps120
  go_wp2_with fail
  obtain ⟨W, hW⟩ : ∃ W, W = (w.alloc (.cells #[.int .i64 seq, .bool full, .slice A tl c] 99)).alloc (.cells #[.int .i64 0, .bool false, .slice none 0 0] 99) := ⟨_, rfl⟩
  rw [← hW]
  have HBW : Hid (Below w.heap.size w W) := Lib.hid (by rw [hW]; exact ((Below.refl _ _).alloc (Nat.le_refl _) _).alloc (by simp) _)
  have HSZ : Hid (W.heap.size = w.heap.size + 2) := Lib.hid (by rw [hW]; simp)
  have HR0 : Hid (Blk W (w.heap.size + 1) 99 #[.int .i64 0, .bool false, .slice none 0 0]) := Lib.hid (by
    have := Blk.new (w.alloc (.cells #[.int .i64 seq, .bool full, .slice A tl c] 99)) 99 #[.int .i64 0, .bool false, .slice none 0 0]
    rw [hW]
    rwa [show (w.alloc (.cells #[.int .i64 seq, .bool full, .slice A tl c] 99)).heap.size = w.heap.size + 1 by simp] at this)
  clear hW
  refine (HCL.out W HBW.out).mono ?_
  rintro e w1 ⟨v, rfl, hrow, hb1⟩
  obtain ⟨pv, cv, rfl, hpn⟩ : ∃ p cap, v = .slice p m cap ∧ (p = none → m = 0) := by
    rcases hrow.2 with ⟨rfl, rfl⟩ | ⟨g, cap, cur, rfl, _⟩
    · exact ⟨none, 0, rfl, fun _ => rfl⟩
    · exact ⟨some ⟨g, 0, none⟩, cap, rfl, fun h => by cases h⟩
  have HROW := Lib.hid hrow
  have HB1 := Lib.hid hb1
  clear hrow hb1 HCL
  by_cases hz : m = 0
  · subst hz
    have hl0 : l = [] := List.eq_nil_of_length_eq_zero HM.out
    have HPO : Hid (putOnce l = []) := Lib.hid (by rw [hl0]; simp [putOnce, Lib.compact, Lib.compactUpTo])
    have hr1 := HR0.out.below HB1.out HR0.out.lt
    have r0 := hr1.cell 0
    have r1 := hr1.cell 1
    have r2 := hr1.cell 2
    have f0 := hr1.frozen 0
    have f1 := hr1.frozen 1
    have f2 := hr1.frozen 2
    simp at r0 r1 r2
    have hl0' := Lib.hid hl0
    clear hl0
    go_wp2_with fail
    refine (h_slices_Sort_int_none pv cv w1).mono ?_
    rintro e w2 ⟨rfl, rfl⟩
    go_wp2_with fail
    refine (h_slices_Compact_int_empty pv cv _).mono ?_
    rintro e w3 ⟨rfl, rfl⟩
    go_wp2_with fail
    have b3 := ((hr1.put 0 (.int .i64 (seq + 1))).put 1 (.bool true)).put 2 (.slice pv 0 cv)
    refine ret_cell rfl rfl (head_var b3) rfl ?_
    refine ⟨pv, cv, by rw [HPO.out]; rfl, ?_, ?_⟩
    · rw [HPO.out]
      have hs := HSZ.out
      have hown := HROW.out
      rw [hl0'.out] at hown
      refine row_lower (base := W.heap.size) (row_kept' hown (fun q e => ?_)) (by omega)
      · have hq := (HROW.out.lt q e).1
        have hne : q ≠ w.heap.size + 1 := by omega
        exact (Below.heap_setCell _ _ _ _ (fun e => hne e)).trans ((Below.heap_setCell _ _ _ _ (fun e => hne e)).trans (Below.heap_setCell _ _ _ _ (fun e => hne e)))
    have k1 : Below w.heap.size w _ := HBW.out.trans (HB1.out.mono (by have := HSZ.out; omega))
    exact ((k1.setCell (by show w.heap.size ≤ w.heap.size + 1; omega) _).setCell (by show w.heap.size ≤ w.heap.size + 1; omega) _).setCell (by show w.heap.size ≤ w.heap.size + 1; omega) _
  · obtain ⟨g, cap, cur, hv, hbg, hcur, h1, h2, h3, h4⟩ : ∃ g cap cur, Value.slice pv m cv = .slice (some ⟨g, 0, none⟩) m cap ∧ W.heap.size ≤ g ∧ w1.heap[g]? = some (.cells cur 3 (0, 0)) ∧ m ≤ cap ∧ cap ≤ maxLen ∧ cur.size = cap * 1 ∧ cur.toList.take (m * 1) = l.map (Value.int .i64) := by
      rcases HROW.out.2 with ⟨_, h⟩ | ⟨g, cap, cur, e, hb, hc, h1, h2, h3, h4⟩
      · exact absurd h hz
      · exact ⟨g, cap, cur, e, hb, hc, h1, h2, h3, h4⟩
    injection hv with e1 _ e3
    subst e1 e3
    rw [Nat.mul_one] at h4
    have hglt : g < w1.heap.size := (HROW.out.lt g rfl).2
    have hH := holds_of_blockI hcur (by rw [HM.out]; exact h4)
    have HSORT := Lib.hid (h_slices_Sort_int g 0 cv l w1 hH hglt (by have := HM.out; omega))
    rw [HM.out] at HSORT
    obtain ⟨s, hs⟩ : ∃ s, s = l.mergeSort fun x y => decide (x ≤ y) := ⟨_, rfl⟩
    have hsl : s.length = m := by rw [hs, List.length_mergeSort, HM.out]
    rw [← hs] at HSORT
    have HPO : Hid (putOnce l = Lib.compact s) := Lib.hid (by unfold putOnce; rw [hs])
    have HOR : Hid (∀ q os, (grow (putRow (Value.int .i64) (Sort.ahead w1 q) g 0 s.toArray) os).ownsRow W.heap.size 3 1 (.slice (some ⟨g, 0, none⟩) m cv) m (s.map (Value.int .i64)) ∧ w1.grownBy (grow (putRow (Value.int .i64) (Sort.ahead w1 q) g 0 s.toArray) os) (some g)) := Lib.hid (fun q os => by
      have := ownsRow_sortedI (n := q) (os := os) (ss := l) (ts := s) (by rw [hsl, HM.out]) hbg hcur (by rw [HM.out]; exact h1) h2 h3
      rw [HM.out] at this
      exact ⟨this, grownBy_sortedI s.toArray⟩)
    have HSL := Lib.hid hsl
    have HG : Hid (W.heap.size ≤ g ∧ g < w1.heap.size) := Lib.hid ⟨hbg, hglt⟩
    clear hs hsl hH h1 h2 h3 h4 hcur hbg hglt hpn
    go_wp2_with fail
    refine HSORT.out.mono ?_
    rintro e w2 ⟨rfl, q, os, rfl⟩
    obtain ⟨w2, hw2⟩ : ∃ w2, w2 = grow (putRow (Value.int .i64) (Sort.ahead w1 q) g 0 s.toArray) os := ⟨_, rfl⟩
    have hor := HOR.out q os
    rw [← hw2] at hor ⊢
    obtain ⟨hrow2, hg2⟩ := hor
    obtain ⟨cap2, cur2, hv2, hbg2, hcur2, h1, h2, h3, h4⟩ : ∃ cap cur, Value.slice (some ⟨g, 0, none⟩) m cv = .slice (some ⟨g, 0, none⟩) m cap ∧ W.heap.size ≤ g ∧ w2.heap[g]? = some (.cells cur 3 (0, 0)) ∧ m ≤ cap ∧ cap ≤ maxLen ∧ cur.size = cap * 1 ∧ cur.toList.take (m * 1) = s.map (Value.int .i64) := by
      rcases hrow2.2 with ⟨_, h⟩ | ⟨g', cap, cur, e, hb, hc, h1, h2, h3, h4⟩
      · exact absurd h hz
      · have e' := e
        injection e with e1 _ _
        injection e1 with e1
        injection e1 with e1 _ _
        subst e1
        exact ⟨cap, cur, e', hb, hc, h1, h2, h3, h4⟩
    injection hv2 with _ _ e3
    subst e3
    rw [Nat.mul_one] at h4
    have hH2 := holds_of_blockI hcur2 (by rw [HSL.out]; exact h4)
    have HCOM := Lib.hid (Any.slices_Compact_int h_laysNm220 g 0 cv s w2 hH2 (by rw [HSL.out]; omega) (by rw [HSL.out]; exact h1))
    obtain ⟨k, hk⟩ : ∃ k, k = (Lib.compact s).length := ⟨_, rfl⟩
    have hkm : k ≤ m := by rw [hk, ← HSL.out]; exact Lib.compact_length_le s
    obtain ⟨z, hzz⟩ : ∃ z, z = Lib.compact s ++ List.replicate (s.length - (Lib.compact s).length) 0 := ⟨_, rfl⟩
    have hzl : z.length = m := by rw [hzz, List.length_append, List.length_replicate, ← hk, HSL.out]; omega
    rw [← hzz, ← hk, HSL.out] at HCOM
    have HOR2 : Hid (∀ q, (putRow (Value.int .i64) (Sort.ahead w2 q) g 0 z.toArray).ownsRow W.heap.size 3 1 (.slice (some ⟨g, 0, none⟩) m cv) m (z.map (Value.int .i64)) ∧ w2.grownBy (putRow (Value.int .i64) (Sort.ahead w2 q) g 0 z.toArray) (some g)) := Lib.hid (fun q => by
      have h5 := ownsRow_sortedI (n := q) (os := #[]) (ss := s) (ts := z) (by rw [hzl, HSL.out]) hbg2 hcur2 (by rw [HSL.out]; exact h1) h2 h3
      rw [HSL.out, Go.Sort.grow_empty] at h5
      have h6 := grownBy_sortedI (w := w2) (g := g) (n := q) (os := #[]) z.toArray
      rw [Go.Sort.grow_empty] at h6
      exact ⟨h5, h6⟩)
    have HK := Lib.hid hk
    have HKM := Lib.hid hkm
    have HZZ := Lib.hid hzz
    have HG2 := Lib.hid hg2
    clear hw2 hrow2 hg2 hcur2 hbg2 h1 h2 h3 h4 hH2 hk hkm hzz hzl
    go_wp2_with fail
    refine HCOM.out.mono ?_
    rintro e w3 ⟨rfl, q2, rfl⟩
    obtain ⟨w3, hw3⟩ : ∃ w3, w3 = putRow (Value.int .i64) (Sort.ahead w2 q2) g 0 z.toArray := ⟨_, rfl⟩
    have hor := HOR2.out q2
    rw [← hw3] at hor ⊢
    obtain ⟨hrow3, hg3⟩ := hor
    have HROW3 := Lib.hid hrow3
    have hne : some g ≠ some (w.heap.size + 1) := fun e => by injection e with e; have := HG.out; have := HSZ.out; omega
    have hr1 := HR0.out.below HB1.out HR0.out.lt
    have hr2 : Blk w2 (w.heap.size + 1) 99 #[.int .i64 0, .bool false, .slice none 0 0] := (HG2.out.block _ hr1.lt (fun e => hne e.symm)).trans hr1
    have hr3 : Blk w3 (w.heap.size + 1) 99 #[.int .i64 0, .bool false, .slice none 0 0] := (hg3.block _ hr2.lt (fun e => hne e.symm)).trans hr2
    have HR3 := Lib.hid hr3
    have r0 := hr3.cell 0
    have r1 := hr3.cell 1
    have r2 := hr3.cell 2
    have f0 := hr3.frozen 0
    have f1 := hr3.frozen 1
    have f2 := hr3.frozen 2
    simp at r0 r1 r2
    have HB3 : Hid (Below w.heap.size w w3) := Lib.hid (by
      have hs := HSZ.out
      have hgw : w.heap.size ≤ g := by have := HG.out; omega
      have k1 : Below w.heap.size w w1 := HBW.out.trans (HB1.out.mono (by omega))
      exact below_by_new (below_by_new k1 HG2.out hgw) hg3 hgw)
    clear hw3 hrow3 hg3 hr1 hr2 hr3 hne HG2
    go_wp2_with fail
    have b3 := ((HR3.out.put 0 (.int .i64 (seq + 1))).put 1 (.bool true)).put 2 (.slice (some ⟨g, 0, none⟩) k cv)
    refine ret_cell rfl rfl (head_var b3) rfl ?_
    have hkl : (putOnce l).length = k := by rw [HPO.out, HK.out]
    refine ⟨some ⟨g, 0, none⟩, cv, by rw [hkl], ?_, ?_⟩
    · have hs := HSZ.out
      have hgr : g ≠ w.heap.size + 1 := by have := HG.out; omega
      have hpre := row_prefix HROW3.out HKM.out
      have ez : (z.map (Value.int .i64)).take k = (putOnce l).map (Value.int .i64) := by
        rw [← List.map_take, HZZ.out, HPO.out, HK.out, List.take_left]
      rw [ez] at hpre
      rw [hkl]
      refine row_lower (base := W.heap.size) (row_kept' hpre (fun q e => ?_)) (by omega)
      have hne : q ≠ w.heap.size + 1 := by
        injection e with e
        have e : g = q := e
        omega
      exact (Below.heap_setCell _ _ _ _ (fun e => hne e)).trans ((Below.heap_setCell _ _ _ _ (fun e => hne e)).trans (Below.heap_setCell _ _ _ _ (fun e => hne e)))
    · exact ((HB3.out.setCell (by show w.heap.size ≤ w.heap.size + 1; omega) _).setCell (by show w.heap.size ≤ w.heap.size + 1; omega) _).setCell (by show w.heap.size ≤ w.heap.size + 1; omega) _
theorem keeps_strict {s : List Int} (hs : s.Pairwise (fun x y => decide (x ≤ y) = true)) : ∀ m, m ≤ s.length →
    (Lib.compactUpTo s.toArray m).Pairwise (· < ·) ∧ (∀ y ∈ Lib.compactUpTo s.toArray m, ∃ k, k < m ∧ s[k]? = some y) ∧ (∀ k, k < m → ∀ y, s[k]? = some y → y ∈ Lib.compactUpTo s.toArray m) := by
  intro m
  induction m with
  | zero => intro _; exact ⟨List.Pairwise.nil, (fun y hy => by cases hy), (fun k h => by omega)⟩
  | succ m ih =>
    intro hm
    obtain ⟨h1, h2, h3⟩ := ih (by omega)
    rw [Lib.compactUpTo_succ]
    have hx : s[m]? = some s[m] := List.getElem?_eq_getElem (by omega)
    have hget : s.toArray[m]! = s[m] := by rw [getElem!_pos s.toArray m (by simpa using by omega)]; simp
    have hle : ∀ k (hk : k < m), s[k]'(by omega) ≤ s[m] := fun k hk => by
      have := List.pairwise_iff_getElem.1 hs k m (by omega) (by omega) hk
      simpa using this
    have hprev : 0 < m → s.toArray[m - 1]! = s[m - 1]'(by omega) := fun _ => by rw [getElem!_pos s.toArray (m - 1) (by simpa using by omega)]; simp
    by_cases hkp : Lib.keeps s.toArray m = true
    · rw [if_pos hkp, hget]
      refine ⟨List.pairwise_append.2 ⟨h1, List.pairwise_singleton _ _, fun y hy z hz => ?_⟩, fun y hy => ?_, fun k hk y hy => ?_⟩
      · rw [List.mem_singleton.1 hz]
        obtain ⟨k, hk, hky⟩ := h2 y hy
        have hm0 : 0 < m := by omega
        unfold Lib.keeps at hkp
        have hkp := of_decide_eq_true hkp
        rcases hkp with hkp | hkp
        · omega
        · rw [hget, hprev hm0] at hkp
          have h5 := hle (m - 1) (by omega)
          have h6 : y ≤ s[m - 1]'(by omega) := by
            have hkk : s[k]'(by omega) = y := by
              rw [List.getElem?_eq_getElem (by omega)] at hky
              exact Option.some.inj hky
            rcases Nat.lt_or_ge k (m - 1) with h7 | h7
            · have := List.pairwise_iff_getElem.1 hs k (m - 1) (by omega) (by omega) h7
              rw [hkk] at this
              simpa using this
            · have : k = m - 1 := by omega
              subst this
              omega
          omega
      · rcases List.mem_append.1 hy with hy | hy
        · obtain ⟨k, hk, hky⟩ := h2 y hy
          exact ⟨k, by omega, hky⟩
        · have := List.mem_singleton.1 hy
          subst this
          exact ⟨m, by omega, hx⟩
      · rcases Nat.lt_or_ge k m with h7 | h7
        · exact List.mem_append_left _ (h3 k h7 y hy)
        · obtain rfl : k = m := by omega
          rw [hx] at hy
          injection hy with hy
          rw [← hy]
          exact List.mem_append_right _ (List.mem_singleton.2 rfl)
    · rw [if_neg hkp, List.append_nil]
      refine ⟨h1, fun y hy => ?_, fun k hk y hy => ?_⟩
      · obtain ⟨k, hk, hky⟩ := h2 y hy
        exact ⟨k, by omega, hky⟩
      · rcases Nat.lt_or_ge k m with h7 | h7
        · exact h3 k h7 y hy
        · obtain rfl : k = m := by omega
          unfold Lib.keeps at hkp
          have hkp : ¬ (k = 0 ∨ s.toArray[k]! ≠ s.toArray[k - 1]!) := fun h => hkp (decide_eq_true h)
          have hk0 : 0 < k := by
            rcases Nat.eq_zero_or_pos k with h | h
            · exact absurd (Or.inl h) hkp
            · exact h
          have heq : s[k] = s[k - 1]'(by omega) := by
            rw [hget, hprev hk0] at hkp
            exact Classical.byContradiction fun h => hkp (.inr h)
          rw [hx] at hy
          injection hy with hy
          rw [← hy, heq]
          exact h3 (k - 1) (by omega) _ (List.getElem?_eq_getElem (by omega))
theorem putOnce_spec (l : List Int) : (putOnce l).Pairwise (· < ·) ∧ ∀ z, z ∈ putOnce l ↔ z ∈ l := by
  have hp : (l.mergeSort fun x y => decide (x ≤ y)).Pairwise (fun x y => decide (x ≤ y) = true) := List.pairwise_mergeSort (by intro a b c h1 h2; simp at *; omega) (by intro a b; simp; omega) l
  obtain ⟨h1, h2, h3⟩ := keeps_strict hp _ (Nat.le_refl _)
  refine ⟨h1, fun z => ⟨fun hz => ?_, fun hz => ?_⟩⟩
  · obtain ⟨k, _, hk⟩ := h2 z hz
    exact List.mem_mergeSort.1 (List.mem_of_getElem? hk)
  · obtain ⟨k, hk⟩ := List.mem_iff_getElem?.1 (List.mem_mergeSort.2 hz : z ∈ l.mergeSort fun x y => decide (x ≤ y))
    refine h3 k ?_ z hk
    rcases Nat.lt_or_ge k (l.mergeSort fun x y => decide (x ≤ y)).length with h | h
    · exact h
    · rw [List.getElem?_eq_none h] at hk; cases hk
theorem putAll_once (l : List Int) : l.foldl (fun a x => putL x a) [] = putOnce l := by
  obtain ⟨h1, h2⟩ := putAll_spec l [] List.Pairwise.nil
  obtain ⟨h3, h4⟩ := putOnce_spec l
  exact strict_ext _ _ h1 h3 fun z => by rw [h2 z, h4 z]; simp
theorem row_off' {w : World} {base n g : Nat} {e t : TypeId} {v : Value} {xs : List Value} {cs : Array Value} (h : w.ownsRow base e 1 v n xs) (hb : Blk w g t cs) (he : e ≠ t) : v.ownBlock ≠ some g := fun hb' => by
  rcases h.2 with ⟨rfl, _⟩ | ⟨g', cap, cur, rfl, _, hg, _⟩
  · cases hb'
  · injection hb' with hb'
    have hb' : g' = g := hb'
    subst hb'
    have hb : w.heap[g']? = _ := hb
    rw [hb] at hg
    injection hg with h2
    injection h2 with _ h2 _
    exact he h2.symm
theorem flatI_snoc (l : List Wr1) (x : Wr1) : flatI (l ++ [x]) = flatI l ++ [.int .i64 x.1, .string x.2] := by simp [flatI]
theorem ret_cell3 {P : Program} {fn : Func} {R : Ending → World → Prop} {a : Act} {w : World} {q r s : Tmp} {ty : TypeId} {ad : Addr} {v u t : Value} (h : fn.results = #[.cell q ty, .tmp r, .tmp s]) (hp : a.tmps.getD q undef = .pointer (some ad))
    (hl : (loadVar ty ad).run P w = .ok v w) (hu : a.tmps.getD r undef = u) (ht : a.tmps.getD s undef = t) (hd : a.defers = []) (hR : R (.returned (.tuple #[v, u, t])) w) : bodyPost P fn R .ret a w := by
  refine bodyPost_ret (v := .tuple #[v, u, t]) ?_ hd hR
  simp only [results, h]
  have hp' : a.tmps[q]?.getD undef = .pointer (some ad) := by simpa using hp
  have hu' : a.tmps[r]?.getD undef = u := by simpa using hu
  have ht' : a.tmps[s]?.getD undef = t := by simpa using ht
  simp [hp', hu', ht', asAddr, hl]
set_option maxRecDepth 100000 in
set_option maxHeartbeats 4000000 in
theorem warrange_any {w : World} {gw gd m c : Nat} {seq k : Int} {O : List Nat} (A : Option Addr) (l : List Wr1) (h : Blk w gw 101 (walC gd seq true k)) (hq : 0 ≤ seq ∧ seq ≤ 1099511627776)
    (hm : l.length = m) (hl : Wrts w O A l) (hm0 : 0 < m) (hm2 : m ≤ 100000) (hr : ∀ x ∈ l, 0 ≤ x.1 ∧ x.1 < 2000) :
    Calls Tryz.prog 91 #[.pointer (some ⟨gw, 0, none⟩), .slice A m c] w fun e w' => ∃ A' c' tn B cb C cc T, T = putOnce (l.map Prod.fst) ∧ tn = T.length ∧ e = .returned (.tuple #[.agg #[.int .i64 (seq + 1), .bool true, .slice A' tn c'], .slice B tn cb, .slice C tn cc]) ∧
      w'.ownsRow w.heap.size 3 1 (.slice A' tn c') tn (T.map (Value.int .i64)) ∧ w'.ownsRow w.heap.size 90 2 (.slice B tn cb) tn (flatI (copiesL l 0 T)) ∧ w'.ownsRow w.heap.size 90 2 (.slice C tn cc) tn (flatI (homeL l T)) ∧ Below w.heap.size w w' := by
  obtain ⟨i0, hi, hz0, hz1, hz2⟩ := info_parts hints_info
  have HW := Lib.hid h
  have HM := Lib.hid hm
  have HL := Lib.hid hl
  have HR := Lib.hid hr
  have HQ := Lib.hid hq
  have hm2' : (m : Int) ≤ 100000 := by omega
  have hmm := @run_makeMap Tryz.prog
  obtain ⟨gh, hgh⟩ : ∃ gh, gh = w.heap.size := ⟨_, rfl⟩
  have HGH := Lib.hid hgh
  have HI := Lib.hid hi
  clear h hm hl hr hq hi hgh
  go_enter Tryz.func91, Tryz.ntmps91
  go_upto_region 2 with fail
  obtain ⟨w1, hw1⟩ : ∃ w1, w1 = (w.alloc (.cells #[.int .i64 0, .bool false, .slice none 0 0] 99)).alloc (.map #[] 0) := ⟨_, rfl⟩
  rw [← hw1]
  rw [← HGH.out]
  have HS1 : Hid (w1.heap.size = gh + 2) := Lib.hid (by rw [hw1, HGH.out]; simp)
  have HBH1 : Hid (Blk w1 gh 99 #[.int .i64 0, .bool false, .slice none 0 0]) := Lib.hid (by rw [hw1, HGH.out]; exact (Blk.new w _ _).alloc _)
  have HMP1 : Hid (MapI w1 (gh + 1) 0 (lastM (l.take 0))) := Lib.hid (by
    rw [hw1, HGH.out]
    have := MapI.made (w.alloc (.cells #[.int .i64 0, .bool false, .slice none 0 0] 99))
    rwa [show (w.alloc (.cells #[.int .i64 0, .bool false, .slice none 0 0] 99)).heap.size = w.heap.size + 1 by simp] at this)
  have HBW1 : Hid (Below w.heap.size w w1) := Lib.hid (by rw [hw1]; exact ((Below.refl _ _).alloc (Nat.le_refl _) _).alloc (by simp) _)
  obtain ⟨w2, hw2⟩ : ∃ w2, w2 = w1.alloc (.cells (arrC l 0).toArray 3) := ⟨_, rfl⟩
  have hmk : (Instr.makeSlice 39 (.int .i64 (m : Int)) (.int .i64 (m : Int))).run Tryz.prog w1 = .ok (.slice (some ⟨gh + 2, 0, none⟩) m m) w2 := by
    have hr := run_makeSlice (P := Tryz.prog) w1 39 3 i0 (.int .i64 0) Tryz.underlying39 HI.out hz0 .i64 .i64 m m (by omega) (Int.le_refl _) (by rw [hz1]; omega) (by rw [hz2]; omega) (by omega)
    have hc : madeCells (Value.int .i64 0).cells ((m : Int).toNat * i0.size) = (arrC l 0).toArray := by
      rw [hz1, Nat.mul_one, Int.toNat_natCast]
      refine Array.toList_inj.1 ?_
      rw [show (Value.int .i64 0).cells = #[Value.int .i64 0] from rfl, toList_madeCells_one]
      unfold arrC
      simp [HM.out]
    rw [hc, Int.toNat_natCast, HS1.out, ← hw2] at hr
    exact hr
  have HBA2 : Hid (Blk w2 (gh + 2) 3 (arrC l 0).toArray) := Lib.hid (by rw [hw2, ← HS1.out]; exact Blk.new w1 _ _)
  have HB12 : Hid (Below w1.heap.size w1 w2) := Lib.hid (by rw [hw2]; exact (Below.refl _ _).alloc (Nat.le_refl _) _)
  have HBH2 : Hid (Blk w2 gh 99 #[.int .i64 0, .bool false, .slice none 0 0]) := Lib.hid (HBH1.out.below HB12.out HBH1.out.lt)
  have HMP2 : Hid (MapI w2 (gh + 1) 0 (lastM (l.take 0))) := Lib.hid (HMP1.out.below HB12.out)
  have HBW2 : Hid (Below w.heap.size w w2) := Lib.hid (HBW1.out.trans (HB12.out.mono HBW1.out.size))
  clear hw1 hw2 HBH1 HMP1 HB12
  go_upto_region 3 with fail
  clear hmk hmm
  go_wp2_with fail
  go_loopw [20] (fun i wr => ∃ j : Nat, j ≤ m ∧ i = .int .i64 j ∧ Blk wr (gh + 2) 3 (arrC l j).toArray ∧ Blk wr gh 99 #[.int .i64 0, .bool false, .slice none 0 0] ∧ MapI wr (gh + 1) j (lastM (l.take j)) ∧ Below w.heap.size w wr) (fun i _ => m - (intOf i).toNat)
  case atStart => exact ⟨0, Nat.zero_le _, rfl, HBA2.out, HBH2.out, HMP2.out, HBW2.out⟩
  case round =>
    obtain ⟨j, hj, rfl, hba, hbh, hmp, hbw⟩ := hrel
    have HBA := Lib.hid hba
    have HBH := Lib.hid hbh
    have HMP := Lib.hid hmp
    have HBW := Lib.hid hbw
    clear hba hbh hmp hbw HBA2 HBH2 HMP2 HBW2
    by_cases hlt : j < m
    · have hjl : j < l.length := by rw [HM.out]; exact hlt
      obtain ⟨b, off, rfl, hbb, -, hc⟩ := HL.out (by omega)
      obtain ⟨x, hx⟩ : ∃ x, x = l[j] := ⟨_, rfl⟩
      have hxj : l[j]? = some x := by rw [hx]; exact List.getElem?_eq_getElem hjl
      have HXR : Hid (0 ≤ x.1 ∧ x.1 < 2000) := Lib.hid (HR.out x (List.mem_of_getElem? hxj))
      obtain ⟨d0, d1⟩ := hc j x hxj
      have HXJ := Lib.hid hxj
      obtain ⟨xa, xs⟩ := x
      simp only at d0 d1
      have d0' : wr.cell? ⟨b, off + j * 2, none⟩ = some (.int .i64 xa) := (HBW.out.cell (p := ⟨b, off + j * 2, none⟩) hbb).trans d0
      have d1' : wr.cell? ⟨b, off + j * 2 + 1, none⟩ = some (.string xs) := (HBW.out.cell (p := ⟨b, off + j * 2 + 1, none⟩) hbb).trans d1
      have hjI : (j : Int) < (m : Int) := by omega
      clear hx hxj hjl hc d0 d1 hbb
      go_upto_region 6 with fail
      obtain ⟨wa, hwa⟩ : ∃ wa, wa = wr.alloc (.cells #[.int .i64 xa, .string xs] 90) := ⟨_, rfl⟩
      obtain ⟨gx, hgx⟩ : ∃ gx, gx = wr.heap.size := ⟨_, rfl⟩
      rw [← hwa, ← hgx]
      have hbx : Blk wa gx 90 #[.int .i64 xa, .string xs] := by rw [hwa, hgx]; exact Blk.new wr _ _
      have HBX := Lib.hid hbx
      have HBRA : Hid (Below wr.heap.size wr wa) := Lib.hid (by rw [hwa]; exact (Below.refl _ _).alloc (Nat.le_refl _) _)
      have HGX : Hid (gx ≠ gh + 2 ∧ w.heap.size ≤ gh + 2) := Lib.hid ⟨by have := HBA.out.lt; omega, by have := HGH.out; omega⟩
      have hba := HBA.out.below HBRA.out HBA.out.lt
      have HBAA := Lib.hid hba
      have a0 := hba.cell j
      have f0 := hba.frozen j
      have x0 := hbx.cell 0
      have x1 := hbx.cell 1
      simp at x0 x1
      have a0' : wa.cell? ⟨gh + 2, j, none⟩ = some (.int .i64 0) := by
        rw [a0, List.getElem?_toArray]
        unfold arrC
        rw [List.getElem?_append_right (by simp; have := HM.out; omega), List.length_map, List.length_take, HM.out, show min j m = j by omega, Nat.sub_self, List.getElem?_replicate, if_pos (by omega)]
      clear hwa hgx hbx hba a0 d0' d1'
      go_upto_region 7 with fail
      obtain ⟨wb, hwb⟩ : ∃ wb, wb = wa.setCell ⟨gh + 2, j, none⟩ (.int .i64 xa) := ⟨_, rfl⟩
      rw [← hwb]
      have HBAB : Hid (Blk wb (gh + 2) 3 (arrC l (j + 1)).toArray) := Lib.hid (by
        have := HBAA.out.put j (.int .i64 xa)
        rw [arrC_next HXJ.out] at this
        rw [hwb]
        exact this)
      have HSE : Hid (∀ b, b ≠ gh + 2 → wb.heap[b]? = wa.heap[b]?) := Lib.hid (fun b hb => by rw [hwb]; exact Below.heap_setCell _ _ _ _ (fun e => hb e))
      have hmpb : MapI wb (gh + 1) j (lastM (l.take j)) := (HMP.out.below HBRA.out).kept (HSE.out _ (by omega))
      have hbhb : Blk wb gh 99 #[.int .i64 0, .bool false, .slice none 0 0] := Eq.trans (HSE.out _ (by omega)) (HBH.out.below HBRA.out HBH.out.lt)
      have HBHB := Lib.hid hbhb
      have HBWB : Hid (Below w.heap.size w wb) := Lib.hid (by rw [hwb]; exact (HBW.out.trans (HBRA.out.mono HBW.out.size)).setCell HGX.out.2 _)
      obtain ⟨wd, hrun, hmpd, hgrd⟩ := hmpb.update (by omega) (k := xa) (v := (j : Int)) (by have := HXR.out.1; simp only at this; omega) (by have := HXR.out.2; simp only at this; omega) (by omega) (by omega)
      have HMPD : Hid (MapI wd (gh + 1) (j + 1) (lastM (l.take (j + 1)))) := Lib.hid (by rw [lastM_next HXJ.out]; exact hmpd)
      have HBAD : Hid (Blk wd (gh + 2) 3 (arrC l (j + 1)).toArray) := Lib.hid (HBAB.out.grown hgrd (fun e => by injection e with e; omega))
      have HBHD : Hid (Blk wd gh 99 #[.int .i64 0, .bool false, .slice none 0 0]) := Lib.hid (HBHB.out.grown hgrd (fun e => by injection e with e; omega))
      have HBWD : Hid (Below w.heap.size w wd) := Lib.hid (HBWB.out.grown hgrd HBWB.out.size (fun k e => by injection e with e; have := HGH.out; omega))
      have x0' : wb.cell? ⟨gx, 0, none⟩ = some (.int .i64 xa) := by rw [World.cell?_of_block (a := ⟨gx, 0, none⟩) (HSE.out _ HGX.out.1)]; exact x0
      clear hwb hmpb hbhb hmpd hgrd a0' f0 x0 x1
      go_wp2_with fail
      clear hrun x0'
      go_roundw
      case rel => exact ⟨j + 1, by omega, by go_num, HBAD.out, HBHD.out, HMPD.out, HBWD.out⟩
      case measure => simp [intOf]; omega
    · obtain rfl : m = j := by omega
      clear hlt hj
      have HIN : Hid (Ints wr wr.heap.size (some ⟨gh + 2, 0, none⟩) (l.map Prod.fst)) := Lib.hid (arrC_ints (by rw [HM.out]; exact HBA.out))
      have hwal := HW.out.below HBW.out HW.out.lt
      have c1 := hwal.cell 1
      have c2 := hwal.cell 2
      have c3 := hwal.cell 3
      simp [walC] at c1 c2 c3
      obtain ⟨T, hT⟩ : ∃ T, T = putOnce (l.map Prod.fst) := ⟨_, rfl⟩
      obtain ⟨tn, htn⟩ : ∃ tn, tn = T.length := ⟨_, rfl⟩
      have HNX : Hid (Calls Tryz.prog 120 #[.agg #[.int .i64 seq, .bool false, .slice none 0 0], .slice (some ⟨gh + 2, 0, none⟩) m m] wr fun e w' => ∃ A' c', e = .returned (.agg #[.int .i64 (seq + 1), .bool true, .slice A' tn c']) ∧ w'.ownsRow wr.heap.size 3 1 (.slice A' tn c') tn (T.map (Value.int .i64)) ∧ Below wr.heap.size wr w') := Lib.hid (by
        refine (hnext_own (HD.mk seq false []) none 0 (some ⟨gh + 2, 0, none⟩) m m (l.map Prod.fst) wr (by rw [List.length_map]; exact HM.out) HIN.out (fun h => by cases h) HQ.out (by omega)).mono ?_
        rintro e w' ⟨A', c', rfl, h1, h2⟩
        rw [← hT, ← htn] at h1
        refine ⟨A', c', ?_, h1, h2⟩
        unfold HD.val
        simp only
        rw [← hT, ← htn])
      have HTT := Lib.hid hT
      have HTN := Lib.hid htn
      have HRNG : Hid (∀ x ∈ l.map Prod.fst, 0 ≤ x ∧ x < 2000) := Lib.hid (fun x hx => by
        obtain ⟨y, hy, rfl⟩ := List.mem_map.1 hx
        exact HR.out y hy)
      have HTM : Hid (∀ t ∈ T, t ∈ l.map Prod.fst) := Lib.hid (fun t ht => by rw [hT] at ht; exact ((putOnce_spec _).2 t).1 ht)
      have htm : (tn : Int) ≤ 100000 := by
        have := (putOnce_ok HRNG.out).2.2
        rw [← hT, ← htn, List.length_map, HM.out] at this
        omega
      clear hwal hT htn
      go_wp2_with fail
      refine HNX.out.mono ?_
      rintro e w3 ⟨A', c', rfl, hrow, hb3⟩
      have HROW := Lib.hid hrow
      have HB3 := Lib.hid hb3
      have hbh3 := HBH.out.below hb3 HBH.out.lt
      have HBH3 := Lib.hid hbh3
      have z0 := hbh3.cell 0
      have z1 := hbh3.cell 1
      have z2 := hbh3.cell 2
      have y0 := hbh3.frozen 0
      have y1 := hbh3.frozen 1
      have y2 := hbh3.frozen 2
      simp at z0 z1 z2
      clear hrow hb3 hbh3 c1 c2 c3 HNX
      go_upto_region 10 with fail
      obtain ⟨w4, hw4⟩ : ∃ w4, w4 = ((w3.setCell ⟨gh, 0, none⟩ (.int .i64 (seq + 1))).setCell ⟨gh, 1, none⟩ (.bool true)).setCell ⟨gh, 2, none⟩ (.slice A' tn c') := ⟨_, rfl⟩
      rw [← hw4]
      have HSE4 : Hid (∀ b, b ≠ gh → w4.heap[b]? = w3.heap[b]?) := Lib.hid (fun b hb => by rw [hw4]; exact (Below.heap_setCell _ _ _ _ (fun e => hb e)).trans ((Below.heap_setCell _ _ _ _ (fun e => hb e)).trans (Below.heap_setCell _ _ _ _ (fun e => hb e))))
      have HBH4 : Hid (Blk w4 gh 99 #[.int .i64 (seq + 1), .bool true, .slice A' tn c']) := Lib.hid (by rw [hw4]; exact ((HBH3.out.put 0 (.int .i64 (seq + 1))).put 1 (.bool true)).put 2 (.slice A' tn c'))
      have HW4 : Hid (Below w.heap.size w w4) := Lib.hid (by
        have hg : w.heap.size ≤ gh := by have := HGH.out; omega
        rw [hw4]
        exact (((HBW.out.trans (HB3.out.mono HBW.out.size)).setCell hg _).setCell hg _).setCell hg _)
      have HT4 : Hid (w4.ownsRow w.heap.size 3 1 (.slice A' tn c') tn (T.map (Value.int .i64))) := Lib.hid (row_lower (row_kept' HROW.out (fun b hb => HSE4.out b (by have := (HROW.out.lt b hb).1; have := HBH.out.lt; omega))) HBW.out.size)
      have HMP4 : Hid (MapI w4 (gh + 1) m (lastM l)) := Lib.hid (by
        have h := HMP.out
        rw [List.take_of_length_le (by rw [HM.out]; exact Nat.le_refl _)] at h
        exact (h.below HB3.out).kept (HSE4.out _ (by omega)))
      have HTI : Hid (Ints w4 w4.heap.size A' T) := Lib.hid (by have h := HT4.out; have e := HTN.out; rw [e] at h; exact row_ints h)
      have z2 := HBH4.out.cell 2
      simp at z2
      clear hw4 z0 z1 y0 y1 y2 HBH HBH3 HROW HB3 HSE4 HMP HIN HBA
      go_wp2_with fail
      obtain ⟨i1, hi1, hy0, hy1, hy2⟩ := info_parts clwrites_info
      have HI1 := Lib.hid hi1
      clear hi1
      go_loopw [5, 6, 44] (fun s5 s6 i wz => ∃ (j : Nat) (B : Option Addr) (cb : Nat) (C : Option Addr) (cc : Nat), j ≤ tn ∧ i = .int .i64 j ∧ s5 = .slice B j cb ∧ s6 = .slice C j cc ∧ wz.ownsRow w4.heap.size 90 2 (.slice B j cb) j (flatI (copiesL l 0 (T.take j))) ∧ wz.ownsRow w4.heap.size 90 2 (.slice C j cc) j (flatI (homeL l (T.take j))) ∧
        (∀ b, (Value.slice B j cb).ownBlock = some b → (Value.slice C j cc).ownBlock ≠ some b) ∧ Below w4.heap.size w4 wz) (fun _ _ i _ => tn - (intOf i).toNat)
      case atStart => exact ⟨0, none, 0, none, 0, Nat.zero_le _, rfl, rfl, rfl, World.ownsRow_nil _ _ _ _, World.ownsRow_nil _ _ _ _, (fun _ h => by cases h), Below.refl _ _⟩
      case round =>
        obtain ⟨j, B, cb, C, cc, hj, rfl, rfl, rfl, hrb, hrc, hbc, hbz⟩ := hrel
        have HRB := Lib.hid hrb
        have HRC := Lib.hid hrc
        have HBC := Lib.hid hbc
        have HBZ := Lib.hid hbz
        clear hrb hrc hbc hbz z2
        by_cases hlt : j < tn
        · have hjl : j < T.length := by rw [← HTN.out]; exact hlt
          obtain ⟨gt, ot, rfl, hgt, hct⟩ := HTI.out (by omega)
          obtain ⟨t, ht⟩ : ∃ t, t = T[j] := ⟨_, rfl⟩
          have htj : T[j]? = some t := by rw [ht]; exact List.getElem?_eq_getElem hjl
          have htm := HTM.out t (List.mem_of_getElem? htj)
          have htr := HRNG.out t htm
          obtain ⟨i, x, hix, hil, hxi, hxt, hxd⟩ := lastM_all l htm
          obtain ⟨b, off, rfl, hbb, -, hc⟩ := HL.out (by omega)
          obtain ⟨-, d1⟩ := hc i x hxi
          obtain ⟨D, hD⟩ : ∃ D, D = lastB l t := ⟨_, rfl⟩
          rw [hxd, ← hD] at d1
          have d1' : wr.cell? ⟨b, off + i * 2 + 1, none⟩ = some (.string D) := by
            rw [HBZ.out.cell (p := ⟨b, off + i * 2 + 1, none⟩) (Nat.lt_of_lt_of_le hbb HW4.out.size), HW4.out.cell (p := ⟨b, off + i * 2 + 1, none⟩) hbb]
            exact d1
          have ct' : wr.cell? ⟨gt, ot + j, none⟩ = some (.int .i64 t) := by
            rw [HBZ.out.cell (p := ⟨gt, ot + j, none⟩) hgt]
            exact hct j t htj
          have hlk := (HMP4.out.below HBZ.out).look (k := t) (by omega) (by omega)
          rw [hix] at hlk
          have HNB : Hid (copiesL l 0 (T.take (j + 1)) = copiesL l 0 (T.take j) ++ [(1 + (j : Int), D)]) := Lib.hid (by
            rw [List.take_add_one, htj, hD]
            have := copiesL_snoc l t (T.take j) 0
            rw [show 0 + (T.take j).length = j by rw [List.length_take]; omega] at this
            exact this)
          have HNC : Hid (homeL l (T.take (j + 1)) = homeL l (T.take j) ++ [(111 + t, D)]) := Lib.hid (by
            rw [List.take_add_one, htj, hD]
            exact homeL_snoc l t (T.take j))
          have hjI : (j : Int) < (tn : Int) := by omega
          have hiI : (i : Int) < (m : Int) := by have := HM.out; omega
          have hj3 : j < 1000000 := by omega
          obtain ⟨ht0, ht1⟩ := htr
          clear hjl ht htj htm hix hil hxi hxt hxd hc d1 hD hct hgt hbb
          go_upto_region 15 with (at_builtin; refine wpList_append_lies _ rfl (.tmp 56) (.tmp 61) 73 rfl w4.heap.size 90 i1 (.agg #[.int .i64 0, .string .empty]) 2 24 Tryz.underlying73 HI1.out hy0 hy1 hy2 rfl (by omega) _ j _ rfl (HRB.out.alloc _) ⟨wr.heap.size, 0, none⟩ 1 1 [.int .i64 (1 + (j : Int)), .string D] rfl rfl ?c1 ?c2 (by omega) (by unfold maxLen; omega) (by omega) (by have := HBZ.out.size; simp; omega) _ rfl ?_)
          case c1 =>
            intro a u ha
            match a, ha with
            | 0, ha => simp at ha; subst ha; simp [Addr.add]
            | 1, ha => simp at ha; subst ha; simp [Addr.add]
          case c2 => intro u hu; simp at hu; rcases hu with rfl | rfl <;> rfl
          intro g2 cap2 wB hownB hgB horB hltB
          have HSB : Hid ((wr.alloc (.cells #[.int .i64 (1 + (j : Int)), .string D] 90)).heap.size = wr.heap.size + 1) := Lib.hid (by simp)
          have hg2 : (Value.slice B j cb).ownBlock = some g2 ∨ wr.heap.size ≤ g2 := horB.imp id (fun h => by have := HSB.out; omega)
          have HG2 := Lib.hid hg2
          have HL2 := Lib.hid hltB
          have HRB2 : Hid (wB.ownsRow w4.heap.size 90 2 (.slice (some ⟨g2, 0, none⟩) (j + 1) cap2) (j + 1) (flatI (copiesL l 0 (T.take (j + 1))))) := Lib.hid (by rw [HNB.out, flatI_snoc]; exact hownB)
          have HRC2 : Hid (wB.ownsRow w4.heap.size 90 2 (.slice C j cc) j (flatI (homeL l (T.take j)))) := Lib.hid (row_kept' HRC.out (fun b hb => by
            have hlt := (HRC.out.lt b hb).2
            exact (hgB.block b (by rw [HSB.out]; omega) (fun e => HBC.out b e.symm hb)).trans (Below.heap_alloc _ _ _ hlt)))
          have HBZ2 : Hid (Below w4.heap.size w4 wB) := Lib.hid ((HBZ.out.alloc HBZ.out.size _).grown hgB (by rw [HSB.out]; have := HBZ.out.size; omega) (fun q e => (HRB.out.lt q e).1))
          have HCG : Hid (∀ b, (Value.slice C j cc).ownBlock = some b → b ≠ g2 ∧ b < wB.heap.size) := Lib.hid (fun b hb => by
            have hlt := (HRC.out.lt b hb).2
            refine ⟨fun e => ?_, (HRC2.out.lt b hb).2⟩
            subst e
            rcases HG2.out with h | h
            · exact HBC.out b h hb
            · omega)
          clear hownB hgB horB hltB hg2 hlk d1' ct'
          go_wp2_with (at_builtin; refine wpList_append_lies _ rfl (.tmp 63) (.tmp 68) 73 rfl w4.heap.size 90 i1 (.agg #[.int .i64 0, .string .empty]) 2 24 Tryz.underlying73 HI1.out hy0 hy1 hy2 rfl (by omega) _ j _ rfl (HRC2.out.alloc _) ⟨wB.heap.size, 0, none⟩ 1 1 [.int .i64 (111 + t), .string D] rfl rfl ?c3 ?c4 (by omega) (by unfold maxLen; omega) (by omega) (by have := HBZ2.out.size; simp; omega) _ rfl ?_)
          case c3 =>
            intro a u ha
            match a, ha with
            | 0, ha => simp at ha; subst ha; simp [Addr.add]
            | 1, ha => simp at ha; subst ha; simp [Addr.add]
          case c4 => intro u hu; simp at hu; rcases hu with rfl | rfl <;> rfl
          intro g3 cap3 wC hownC hgC horC hltC
          have HSC : Hid ((wB.alloc (.cells #[.int .i64 (111 + t), .string D] 90)).heap.size = wB.heap.size + 1) := Lib.hid (by simp)
          have HRC3 : Hid (wC.ownsRow w4.heap.size 90 2 (.slice (some ⟨g3, 0, none⟩) (j + 1) cap3) (j + 1) (flatI (homeL l (T.take (j + 1))))) := Lib.hid (by rw [HNC.out, flatI_snoc]; exact hownC)
          have HRB3 : Hid (wC.ownsRow w4.heap.size 90 2 (.slice (some ⟨g2, 0, none⟩) (j + 1) cap2) (j + 1) (flatI (copiesL l 0 (T.take (j + 1))))) := Lib.hid (row_kept' HRB2.out (fun b hb => by
            have hlt := (HRB2.out.lt b hb).2
            have e2 : g2 = b := by injection hb
            exact (hgC.block b (by rw [HSC.out]; omega) (fun e => (HCG.out b e.symm).1 e2.symm)).trans (Below.heap_alloc _ _ _ hlt)))
          have HBZ3 : Hid (Below w4.heap.size w4 wC) := Lib.hid ((HBZ2.out.alloc HBZ2.out.size _).grown hgC (by rw [HSC.out]; have := HBZ2.out.size; omega) (fun q e => (HRC2.out.lt q e).1))
          have HAP : Hid (∀ b, (Value.slice (some ⟨g2, 0, none⟩) (j + 1) cap2).ownBlock = some b → (Value.slice (some ⟨g3, 0, none⟩) (j + 1) cap3).ownBlock ≠ some b) := Lib.hid (fun b hb hb' => by
            have e2 : g2 = b := by injection hb
            have e3 : g3 = b := by injection hb'
            have h2 := HL2.out
            rcases horC with h | h
            · exact (HCG.out g3 h).1 (by omega)
            · have := HSC.out; omega)
          clear hownC hgC horC hltC
          go_wp2_with fail
          go_roundw
          case rel => exact ⟨j + 1, some ⟨g2, 0, none⟩, cap2, some ⟨g3, 0, none⟩, cap3, by omega, by go_num, rfl, rfl, HRB3.out, HRC3.out, HAP.out, HBZ3.out⟩
          case measure => simp [intOf]; omega
        · obtain rfl : tn = j := by omega
          have hbh := HBH4.out.below HBZ.out HBH4.out.lt
          have HBHZ := Lib.hid hbh
          have z0 := hbh.cell 0
          have z1 := hbh.cell 1
          have z2 := hbh.cell 2
          have y0 := hbh.frozen 0
          have y1 := hbh.frozen 1
          have y2 := hbh.frozen 2
          simp at z0 z1 z2
          have HTA : Hid (T.take tn = T) := Lib.hid (List.take_of_length_le (by rw [← HTN.out]; exact Nat.le_refl _))
          have hrb := HRB.out
          have hrc := HRC.out
          rw [HTA.out] at hrb hrc
          have HRB' := Lib.hid hrb
          have HRC' := Lib.hid hrc
          clear hbh hlt hj hrb hrc
          go_wp2_with fail
          have HFIN : Hid (∀ u0 u1 u2, ∀ b, b ≠ gh → (((wr.setCell ⟨gh, 0, none⟩ u0).setCell ⟨gh, 1, none⟩ u1).setCell ⟨gh, 2, none⟩ u2).heap[b]? = wr.heap[b]?) := Lib.hid (fun u0 u1 u2 b hb => (Below.heap_setCell _ _ _ _ (fun e => hb e)).trans ((Below.heap_setCell _ _ _ _ (fun e => hb e)).trans (Below.heap_setCell _ _ _ _ (fun e => hb e))))
          have b5 := ((HBHZ.out.put 0 (.int .i64 (seq + 1))).put 1 (.bool true)).put 2 (.slice A' tn c')
          have hgw : w.heap.size ≤ gh := by have := HGH.out; omega
          have hgh4 : gh < w4.heap.size := HBH4.out.lt
          refine ret_cell3 rfl rfl (head_var b5) rfl rfl rfl ?_
          refine ⟨A', c', tn, B, cb, C, cc, T, HTT.out, HTN.out, rfl, ?_, ?_, ?_, ?_⟩
          · refine row_kept' (row_below HT4.out HBZ.out) (fun b hb => HFIN.out _ _ _ b (fun e => ?_))
            exact row_off' HT4.out HBH4.out (by decide) (by rw [← e]; exact hb)
          · exact row_lower (row_kept' HRB'.out (fun b hb => HFIN.out _ _ _ b (by have := (HRB'.out.lt b hb).1; omega))) HW4.out.size
          · exact row_lower (row_kept' HRC'.out (fun b hb => HFIN.out _ _ _ b (by have := (HRC'.out.lt b hb).1; omega))) HW4.out.size
          · exact (((HW4.out.trans (HBZ.out.mono HW4.out.size)).setCell hgw _).setCell hgw _).setCell hgw _
end Go.Proofs.YtiagofgcinlnhaaGreatDoor
