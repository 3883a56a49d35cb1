/-
  Package head's Next, its targets in a row of their own. No statement is proved here.
-/
import Derived.Test.YtingkbeifohihaaGreatDoorBytes
import Derived.WalkKit
import Derived.ProofKit
import Derived.OpenShut
import Derived.SliceStrings
import Derived.ChangeSlices
import Derived.Test.YtingkbeifohihaaGreatDoorDiskMade
import Derived.Laws.BitsLemmas
import Derived.Test.YtingkbeifohihaaGreatDoorDiskCalls
import Derived.Test.YtingkbeifohihaaGreatDoorCrcSeal
import Derived.Test.YtingkbeifohihaaGreatDoorHeadLib
import Derived.Sort.OwnSortedInts
import Derived.BigCall
import Derived.Lib.SliceRun
import Derived.Deep.AppendLies
import Derived.Test.YtingkbeifohihaaGreatDoorGrow
namespace Go.Proofs.YtingkbeifohihaaGreatDoor
open Go.ChangeShapes Go.WideShapes Go.ChangeAt Go.RowKit
open Go.WideMaps Go.WideElems
theorem Dj : laidOutB Tryz.prog = true := by kernel_rfl
theorem Ut : Tryz.prog.cellsOf 9 = 1 := by kernel_rfl
structure wK (w : World) (A : Option Addr) (m c : Nat) (xs : List ByteArray) : Prop where
 len : xs.length = m
 lie : dL w w.heap.size A xs
 nil_ : A = none -> c = 0
 few : m <= 9223372036854775807
 short : ∀ x ∈ xs, x.size <= 9223372036854775807
 room : m <= c
theorem Gq {W : World} {a : Addr} {n : Nat} {f : Nat -> Value} (h : ∀ i, i < n -> W.cell? (a.add i) = some (f i)) (hp : 0 < n) :
  ∃ b off, a = ⟨b, off, none⟩ /\ b < W.heap.size /\ ∀ j, j < n -> W.cell? ⟨b, off + j, none⟩ = some (f j) := by
 obtain ⟨b, off, spot⟩ := a
 have hspot : spot = none := by simpa [Addr.add] using World.cell?_spot (h 0 hp)
 subst hspot
 have hc : ∀ j, j < n -> W.cell? ⟨b, off + j, none⟩ = some (f j) := fun j hj => by rw [<- Go.WideShapes.add_plain]; exact h j hj
 exact ⟨b, off, rfl, World.block_lt_of_cell? W _ (hc 0 hp), hc⟩
theorem yW {H : Type} {enc : TypeId × Value -> H} {W : World} {a : Option Addr} {n c : Nat} {d : DataW H} {p : List MemPlace} (h : DataW.Trod enc Tryz.prog W 0 (fun _ => true) true 22 (.slice a n c) d p) :
  ∃ xs : List ByteArray, wK W a n c xs := by
 obtain ⟨fuel, hf⟩ := h
 rcases open_strings Tryz.underlying22 Tryz.underlying9 Ut hf with ⟨hcs, _⟩ | ⟨a', len, cap, zs, hcs, _, hl, hcap, hz, _, hc, hw⟩
 ·simp [Value.cells] at hcs
  obtain ⟨rfl, rfl, rfl⟩ := hcs
  exact ⟨[], rfl, dL.nil _ _ _, fun _ => rfl, by omega, by simp, Nat.le_refl _⟩
 ·simp [Value.cells] at hcs
  obtain ⟨rfl, rfl, rfl⟩ := hcs
  simp only [if_true] at hz
  have hmax : maxLen = 9223372036854775807 := rfl
  have hlen : (zs.take n).length = n := by rw [List.length_take]; omega
  refine ⟨zs.take n, hlen, ?_, (fun e => by cases e), by omega, (fun t ht => by rw [<- hmax]; exact hw t (List.mem_of_mem_take ht)), by omega⟩
  intro hpos
  rw [hlen] at hpos
  obtain ⟨b, off, rfl, hb, hc'⟩ := Gq hc (by omega)
  refine ⟨b, off, rfl, hb, fun j x hx => ?_⟩
  rw [List.getElem?_take] at hx
  split at hx
  ·have := hc' j (by omega)
   rw [this, List.getD_eq_getElem?_getD, hx]
   rfl
  ·cases hx
open Go.RowKit
def eQ (l : List (Int × ByteArray)) : List Value := l.flatMap fun x => [.int .i64 x.1, .string x.2]
theorem Bw (l : List (Int × ByteArray)) : (eQ l).length = l.length * 2 := by
 induction l with
 | nil => rfl
 | cons x r ih => show (_ :: _ :: eQ r).length = _; rw [List.length_cons, List.length_cons, ih, List.length_cons]; omega
theorem tU {l : List (Int × ByteArray)} {j : Nat} {x : Int × ByteArray} (h : l[j]? = some x) : (eQ l)[2 * j]? = some (.int .i64 x.1) /\ (eQ l)[2 * j + 1]? = some (.string x.2) := by
 induction l generalizing j with
 | nil => cases h
 | cons y r ih =>
   have e : eQ (y :: r) = .int .i64 y.1 :: .string y.2 :: eQ r := rfl
   rw [e]
   cases j with
   | zero =>
     rw [List.getElem?_cons_zero] at h
     injection h with h
     subst h
     exact ⟨rfl, rfl⟩
   | succ j =>
     rw [List.getElem?_cons_succ] at h
     have := ih h
     rw [show 2 * (j + 1) = (2 * j + 1) + 1 by omega, show (2 * j + 1) + 1 + 1 = (2 * j + 1 + 1) + 1 by omega]
     simp only [List.getElem?_cons_succ]
     exact this
open Go.RowKit Go.Sort
set_option maxRecDepth 100000
set_option maxHeartbeats 1000000
theorem Uu : (Tryz.prog.info? 3).map (fun i => (i.zero, i.size, i.bytes)) = some (some (.int .i64 0), 1, 8) := by kernel_rfl
theorem Kj (A : Option Addr) (m c : Nat) (l : List Int) (w : World) (hl : l.length = m) (hA : ∀ ad, A = some ad -> ∀ (j : Nat) (u : Value), (l.map (Value.int .i64))[j]? = some u -> w.cell? (ad.add j) = some u) (h0 : A = none -> m = 0 /\ c = 0) (hm : m <= 1000000000000) :
  Calls Tryz.prog 202 #[.slice A m c] w fun e w' => ∃ v, e = .returned v /\ w'.ownsRow w.heap.size 3 1 v m (l.map (Value.int .i64)) /\ Below w.heap.size w w' := by
 obtain ⟨i0, hi, hz0, hz1, hz2⟩ := info_parts Uu
 have HM := Lib.hid hl
 have H0 := Lib.hid h0
 rcases A with _ | ad
 ·obtain ⟨rfl, rfl⟩ := h0 rfl
  have hxs : l = [] := List.eq_nil_of_length_eq_zero hl
  subst hxs
  have q : ∀ w, (binOp .eql 33 (.slice none 0 0) (.slice none 0 0)).run Tryz.prog w = .ok (.bool true) w := fun w => Lib.run_eql_slice_nil w 33 _ none 0 0 0 0 Tryz.underlying33
  clear hA h0 hl
  go_enter Tryz.func202, Tryz.ntmps202
  go_wp2_with fail
  go_ret
  exact ⟨_, rfl, World.ownsRow_nil _ _ _ _, Below.refl _ _⟩
 ·have hone : ∀ u ∈ (l.map (Value.int .i64)), u.oneCell' = true := by
   intro u hu
   obtain ⟨x, _, rfl⟩ := List.mem_map.1 hu
   rfl
  have HN := Lib.hid (hA ad rfl)
  have HO := Lib.hid hone
  have HE : Hid ((w.alloc (.cells #[] 3)).ownsRow w.heap.size 3 1 (.slice (some ⟨w.heap.size, 0, none⟩) 0 0) 0 []) := Lib.hid (World.ownsRow_made w #[] 0 (Nat.le_refl _) (by decide) rfl)
  have HC : Hid ((l.map (Value.int .i64)).length = m * 1) := Lib.hid (by rw [List.length_map, hl]; omega)
  have HB : Hid (Below w.heap.size w (w.alloc (.cells #[] 3))) := Lib.hid ((Below.refl _ _).alloc (Nat.le_refl _) _)
  have HNN : Hid (∀ (j : Nat) (u : Value), (l.map (Value.int .i64))[j]? = some u -> (w.alloc (.cells #[] 3)).cell? (ad.add j) = some u) := Lib.hid (fun j u hu => by
   have h1 := HN.out j u hu
   have hlt := World.block_lt_of_cell? w _ h1
   rw [World.cell?_of_block (Below.heap_alloc w _ _ hlt)]
   exact h1)
  have q : ∀ w, (binOp .eql 33 (.slice (some ad) m c) (.slice none 0 0)).run Tryz.prog w = .ok (.bool false) w := fun w => Lib.run_eql_slice_nil w 33 _ (some ad) m c 0 0 Tryz.underlying33
  clear hA h0 hone hl
  go_enter Tryz.func202, Tryz.ntmps202
  go_wp2_with (at_builtin; refine wpList_append_own _ rfl _ _ 33 rfl w.heap.size 3 i0 (.int .i64 0) 1 8 Tryz.underlying33 hi hz0 hz1 hz2 rfl (by omega) (.slice (some ⟨w.heap.size, 0, none⟩) 0 0) 0 [] rfl HE.out ad m c (l.map (Value.int .i64)) rfl HC.out HNN.out HO.out (by unfold maxLen; omega) (by omega) (by simp) ?_; intro v1 w1 hown1 hg1 _)
  have hb1 : Below w.heap.size w w1 := HB.out.grown hg1 (by simp) (by simp [Value.ownBlock])
  have HOW := Lib.hid hown1
  clear hown1 hg1
  go_ret
  exact ⟨v1, rfl, by simpa using HOW.out, hb1⟩
def bO (l : List Int) : List Int := Lib.compact (l.mergeSort fun x y => decide (x <= y))
theorem Dk {s : List Int} (hs : s.Pairwise (fun x y => decide (x <= y) = true)) (hr : ∀ x ∈ s, 0 <= x /\ x < 2000) : ∀ m, m <= s.length ->
  iD 0 (Lib.compactUpTo s.toArray m) = true /\ (∀ y ∈ Lib.compactUpTo s.toArray m, ∃ k, k < m /\ s[k]? = some y) /\ (0 < m -> 0 < (Lib.compactUpTo s.toArray m).length) /\ (Lib.compactUpTo s.toArray m).length <= m := by
 intro m
 induction m with
 | zero => intro _; exact ⟨rfl, (fun y hy => by cases hy), (fun h => by omega), Nat.le_refl _⟩
 | succ m ih =>
   intro hm
   obtain ⟨h1, h2, h3, h4⟩ := ih (by omega)
   rw [Lib.compactUpTo_succ]
   have hx : s[m]? = some s[m] := List.getElem?_eq_getElem (by omega)
   have hget : s.toArray[m]! = s[m] := by rw [getElem!_pos s.toArray m (by simpa using by omega)]; simp
   have hxr := hr s[m] (List.getElem_mem _)
   have hle : ∀ k (hk : k < m), s[k]'(by omega) <= s[m] := fun k hk => by
    have := List.pairwise_iff_getElem.1 hs k m (by omega) (by omega) hk
    simpa using this
   by_cases hkp : Lib.keeps s.toArray m = true
   ·rw [if_pos hkp, hget]
    refine ⟨yF _ 0 _ h1 (fun y hy => ?_) hxr.1 hxr.2, fun y hy => ?_, fun _ => by simp, by simp; omega⟩
    ·obtain ⟨k, hk, hky⟩ := h2 y hy
     have hm0 : 0 < m := by omega
     have hprev : s.toArray[m - 1]! = s[m - 1]'(by omega) := by rw [getElem!_pos s.toArray (m - 1) (by simpa using by omega)]; simp
     unfold Lib.keeps at hkp
     have hkp := of_decide_eq_true hkp
     rcases hkp with hkp | hkp
     ·omega
     ·rw [hget, hprev] at hkp
      have h5 := hle (m - 1) (by omega)
      have h6 : y <= s[m - 1]'(by omega) := by
       have hkk : s[k]'(by omega) = y := by
        rw [List.getElem?_eq_getElem (by omega)] at hky
        exact Option.some.inj hky
       rcases Nat.lt_or_ge k (m - 1) with h7 | h7
       ·have := List.pairwise_iff_getElem.1 hs k (m - 1) (by omega) (by omega) h7
        rw [hkk] at this
        simpa using this
       ·have : k = m - 1 := by omega
        subst this
        omega
      omega
    ·rcases List.mem_append.1 hy with hy | hy
     ·obtain ⟨k, hk, hky⟩ := h2 y hy
      exact ⟨k, by omega, hky⟩
     ·have := List.mem_singleton.1 hy
      subst this
      exact ⟨m, by omega, hx⟩
   ·rw [if_neg hkp, List.append_nil]
    refine ⟨h1, fun y hy => ?_, fun _ => ?_, by omega⟩
    ·obtain ⟨k, hk, hky⟩ := h2 y hy
     exact ⟨k, by omega, hky⟩
    ·apply h3
     rcases Nat.eq_zero_or_pos m with h | h
     ·subst h
      exact absurd (show Lib.keeps s.toArray 0 = true by simp [Lib.keeps]) hkp
     ·exact h
theorem yX {l : List Int} (hr : ∀ x ∈ l, 0 <= x /\ x < 2000) : iD 0 (bO l) = true /\ (0 < l.length -> 0 < (bO l).length) /\ (bO l).length <= l.length := by
 have hp : (l.mergeSort fun x y => decide (x <= y)).Pairwise (fun x y => decide (x <= y) = true) := List.pairwise_mergeSort (by intro a b c h1 h2; simp at *; omega) (by intro a b; simp; omega) l
 have hl : (l.mergeSort fun x y => decide (x <= y)).length = l.length := List.length_mergeSort _
 obtain ⟨h1, _, h3, h4⟩ := Dk hp (fun x hx => hr x (List.mem_mergeSort.1 hx)) _ (Nat.le_refl _)
 rw [hl] at h3 h4
 exact ⟨by unfold bO Lib.compact; exact h1, fun h => by unfold bO Lib.compact; rw [hl]; exact h3 h, by unfold bO Lib.compact; rw [hl]; exact h4⟩
set_option maxRecDepth 100000
set_option maxHeartbeats 4000000
theorem Ki {w : World} {base g m c k : Nat} {e : TypeId} {xs : List Value} (h : w.ownsRow base e 1 (.slice (some ⟨g, 0, none⟩) m c) m xs) (hk : k <= m) : w.ownsRow base e 1 (.slice (some ⟨g, 0, none⟩) k c) k (xs.take k) := by
 have hl := h.1
 refine ⟨by rw [List.length_take]; omega, ?_⟩
 rcases h.2 with ⟨h, _⟩ | ⟨g', cap', cur, h, hb, hg, h1, h2, h3, h4⟩
 ·cases h
 ·injection h with e1 _ e3
  injection e1 with e1
  injection e1 with e1 _ _
  subst e1 e3
  refine .inr ⟨g, c, cur, rfl, hb, hg, by omega, h2, h3, ?_⟩
  simp only [Nat.mul_one] at h4 ⊢
  rw [<- h4, List.take_take, Nat.min_eq_left hk]
theorem Pq (h : HD) (A : Option Addr) (c : Nat) (X : Option Addr) (m cx : Nat) (l : List Int) (w : World) (hm : l.length = m) (hx : dZ w w.heap.size X l) (h0 : X = none -> m = 0 /\ cx = 0) (hq : 0 <= h.seq /\ h.seq <= 1099511627776) (hb : m <= 1000000) :
  Calls Tryz.prog 179 #[h.val A c, .slice X m cx] w fun e w' => ∃ A' c', e = .returned ((HD.mk (h.seq + 1) true (bO l)).val A' c') /\ w'.ownsRow w.heap.size 3 1 (.slice A' (bO l).length c') (bO l).length ((bO l).map (Value.int .i64)) /\ Below w.heap.size w w' := by
 obtain ⟨seq, full, ts⟩ := h
 simp only at hq
 obtain ⟨q0, q1⟩ := hq
 unfold HD.val
 simp only
 have HX := Lib.hid hx
 have HM := Lib.hid hm
 have HCL : Hid (∀ W, Below w.heap.size w W -> Calls Tryz.prog 202 #[.slice X m cx] W fun e w' => ∃ v, e = .returned v /\ w'.ownsRow W.heap.size 3 1 v m (l.map (Value.int .i64)) /\ Below W.heap.size W w') := Lib.hid (fun W hW => by
  refine Kj X m cx l W hm (fun ad e j u hu => ?_) h0 (by omega)
  subst e
  have hj : j < l.length := by
   rcases Nat.lt_or_ge j l.length with h | h
   ·exact h
   ·rw [List.getElem?_eq_none (by rw [List.length_map]; exact h)] at hu; cases hu
  obtain ⟨b, off, e, hbb, hc⟩ := hx (by omega)
  injection e with e
  subst e
  rw [List.getElem?_map] at hu
  obtain ⟨x, hx', rfl⟩ := Option.map_eq_some_iff.1 hu
  rw [Go.WideShapes.add_plain]
  exact (hW.cell (p := ⟨b, off + j, none⟩) hbb).trans (hc j x hx'))
 obtain ⟨tl, htl⟩ : ∃ tl, tl = ts.length := ⟨_, rfl⟩
 rw [<- htl]
 clear hx hm h0 htl
 go_enter Tryz.func179, Tryz.ntmps179
 go_wp2_with fail
 obtain ⟨W, hW⟩ : ∃ W, W = (w.alloc (.cells #[.int .i64 seq, .bool full, .slice A tl c] 160)).alloc (.cells #[.int .i64 0, .bool false, .slice none 0 0] 160) := ⟨_, rfl⟩
 rw [<- hW]
 have HBW : Hid (Below w.heap.size w W) := Lib.hid (by rw [hW]; exact ((Below.refl _ _).alloc (Nat.le_refl _) _).alloc (by simp) _)
 have HSZ : Hid (W.heap.size = w.heap.size + 2) := Lib.hid (by rw [hW]; simp)
 have HR0 : Hid (aG W (w.heap.size + 1) 160 #[.int .i64 0, .bool false, .slice none 0 0]) := Lib.hid (by
  have := aG.new (w.alloc (.cells #[.int .i64 seq, .bool full, .slice A tl c] 160)) 160 #[.int .i64 0, .bool false, .slice none 0 0]
  rw [hW]
  rwa [show (w.alloc (.cells #[.int .i64 seq, .bool full, .slice A tl c] 160)).heap.size = w.heap.size + 1 by simp] at this)
 clear hW
 refine (HCL.out W HBW.out).mono ?_
 rintro e w1 ⟨v, rfl, hrow, hb1⟩
 obtain ⟨pv, cv, rfl, hpn⟩ : ∃ p cap, v = .slice p m cap /\ (p = none -> m = 0) := by
  rcases hrow.2 with ⟨rfl, rfl⟩ | ⟨g, cap, cur, rfl, _⟩
  ·exact ⟨none, 0, rfl, fun _ => rfl⟩
  ·exact ⟨some ⟨g, 0, none⟩, cap, rfl, fun h => by cases h⟩
 have HROW := Lib.hid hrow
 have HB1 := Lib.hid hb1
 clear hrow hb1 HCL
 by_cases hz : m = 0
 ·subst hz
  have hl0 : l = [] := List.eq_nil_of_length_eq_zero HM.out
  have HPO : Hid (bO l = []) := Lib.hid (by rw [hl0]; simp [bO, Lib.compact, Lib.compactUpTo])
  have hr1 := HR0.out.below HB1.out HR0.out.lt
  have r0 := hr1.cell 0
  have r1 := hr1.cell 1
  have r2 := hr1.cell 2
  have f0 := hr1.frozen 0
  have f1 := hr1.frozen 1
  have f2 := hr1.frozen 2
  simp at r0 r1 r2
  have hl0' := Lib.hid hl0
  clear hl0
  go_wp2_with fail
  refine (nR pv cv w1).mono ?_
  rintro e w2 ⟨rfl, rfl⟩
  go_wp2_with fail
  refine (kY pv cv _).mono ?_
  rintro e w3 ⟨rfl, rfl⟩
  go_wp2_with fail
  have b3 := ((hr1.put 0 (.int .i64 (seq + 1))).put 1 (.bool true)).put 2 (.slice pv 0 cv)
  refine dV rfl rfl (eY b3) rfl ?_
  refine ⟨pv, cv, by rw [HPO.out]; rfl, ?_, ?_⟩
  ·rw [HPO.out]
   have hs := HSZ.out
   have hown := HROW.out
   rw [hl0'.out] at hown
   refine eG (base := W.heap.size) (cG hown (fun q e => ?_)) (by omega)
   ·have hq := (HROW.out.lt q e).1
    have hne : q ≠ w.heap.size + 1 := by omega
    exact (Below.heap_setCell _ _ _ _ (fun e => hne e)).trans ((Below.heap_setCell _ _ _ _ (fun e => hne e)).trans (Below.heap_setCell _ _ _ _ (fun e => hne e)))
  have k1 : Below w.heap.size w _ := HBW.out.trans (HB1.out.mono (by have := HSZ.out; omega))
  exact ((k1.setCell (by show w.heap.size <= w.heap.size + 1; omega) _).setCell (by show w.heap.size <= w.heap.size + 1; omega) _).setCell (by show w.heap.size <= w.heap.size + 1; omega) _
 ·obtain ⟨g, cap, cur, hv, hbg, hcur, h1, h2, h3, h4⟩ : ∃ g cap cur, Value.slice pv m cv = .slice (some ⟨g, 0, none⟩) m cap /\ W.heap.size <= g /\ w1.heap[g]? = some (.cells cur 3 (0, 0)) /\ m <= cap /\ cap <= maxLen /\ cur.size = cap * 1 /\ cur.toList.take (m * 1) = l.map (Value.int .i64) := by
   rcases HROW.out.2 with ⟨_, h⟩ | ⟨g, cap, cur, e, hb, hc, h1, h2, h3, h4⟩
   ·exact absurd h hz
   ·exact ⟨g, cap, cur, e, hb, hc, h1, h2, h3, h4⟩
  injection hv with e1 _ e3
  subst e1 e3
  rw [Nat.mul_one] at h4
  have hglt : g < w1.heap.size := (HROW.out.lt g rfl).2
  have hH := holds_of_blockI hcur (by rw [HM.out]; exact h4)
  have HSORT := Lib.hid (sP g 0 cv l w1 hH hglt (by have := HM.out; omega))
  rw [HM.out] at HSORT
  obtain ⟨s, hs⟩ : ∃ s, s = l.mergeSort fun x y => decide (x <= y) := ⟨_, rfl⟩
  have hsl : s.length = m := by rw [hs, List.length_mergeSort, HM.out]
  rw [<- hs] at HSORT
  have HPO : Hid (bO l = Lib.compact s) := Lib.hid (by unfold bO; rw [hs])
  have HOR : Hid (∀ q os, (grow (putRow (Value.int .i64) (Sort.ahead w1 q) g 0 s.toArray) os).ownsRow W.heap.size 3 1 (.slice (some ⟨g, 0, none⟩) m cv) m (s.map (Value.int .i64)) /\ w1.grownBy (grow (putRow (Value.int .i64) (Sort.ahead w1 q) g 0 s.toArray) os) (some g)) := Lib.hid (fun q os => by
   have := ownsRow_sortedI (n := q) (os := os) (ss := l) (ts := s) (by rw [hsl, HM.out]) hbg hcur (by rw [HM.out]; exact h1) h2 h3
   rw [HM.out] at this
   exact ⟨this, grownBy_sortedI s.toArray⟩)
  have HSL := Lib.hid hsl
  have HG : Hid (W.heap.size <= g /\ g < w1.heap.size) := Lib.hid ⟨hbg, hglt⟩
  clear hs hsl hH h1 h2 h3 h4 hcur hbg hglt hpn
  go_wp2_with fail
  refine HSORT.out.mono ?_
  rintro e w2 ⟨rfl, q, os, rfl⟩
  obtain ⟨w2, hw2⟩ : ∃ w2, w2 = grow (putRow (Value.int .i64) (Sort.ahead w1 q) g 0 s.toArray) os := ⟨_, rfl⟩
  have hor := HOR.out q os
  rw [<- hw2] at hor ⊢
  obtain ⟨hrow2, hg2⟩ := hor
  obtain ⟨cap2, cur2, hv2, hbg2, hcur2, h1, h2, h3, h4⟩ : ∃ cap cur, Value.slice (some ⟨g, 0, none⟩) m cv = .slice (some ⟨g, 0, none⟩) m cap /\ W.heap.size <= g /\ w2.heap[g]? = some (.cells cur 3 (0, 0)) /\ m <= cap /\ cap <= maxLen /\ cur.size = cap * 1 /\ cur.toList.take (m * 1) = s.map (Value.int .i64) := by
   rcases hrow2.2 with ⟨_, h⟩ | ⟨g', cap, cur, e, hb, hc, h1, h2, h3, h4⟩
   ·exact absurd h hz
   ·have e' := e
    injection e with e1 _ _
    injection e1 with e1
    injection e1 with e1 _ _
    subst e1
    exact ⟨cap, cur, e', hb, hc, h1, h2, h3, h4⟩
  injection hv2 with _ _ e3
  subst e3
  rw [Nat.mul_one] at h4
  have hH2 := holds_of_blockI hcur2 (by rw [HSL.out]; exact h4)
  have HCOM := Lib.hid (Any.slices_Compact_int vE g 0 cv s w2 hH2 (by rw [HSL.out]; omega) (by rw [HSL.out]; exact h1))
  obtain ⟨k, hk⟩ : ∃ k, k = (Lib.compact s).length := ⟨_, rfl⟩
  have hkm : k <= m := by rw [hk, <- HSL.out]; exact Lib.compact_length_le s
  obtain ⟨z, hzz⟩ : ∃ z, z = Lib.compact s ++ List.replicate (s.length - (Lib.compact s).length) 0 := ⟨_, rfl⟩
  have hzl : z.length = m := by rw [hzz, List.length_append, List.length_replicate, <- hk, HSL.out]; omega
  rw [<- hzz, <- hk, HSL.out] at HCOM
  have HOR2 : Hid (∀ q, (putRow (Value.int .i64) (Sort.ahead w2 q) g 0 z.toArray).ownsRow W.heap.size 3 1 (.slice (some ⟨g, 0, none⟩) m cv) m (z.map (Value.int .i64)) /\ w2.grownBy (putRow (Value.int .i64) (Sort.ahead w2 q) g 0 z.toArray) (some g)) := Lib.hid (fun q => by
   have h5 := ownsRow_sortedI (n := q) (os := #[]) (ss := s) (ts := z) (by rw [hzl, HSL.out]) hbg2 hcur2 (by rw [HSL.out]; exact h1) h2 h3
   rw [HSL.out, Go.Sort.grow_empty] at h5
   have h6 := grownBy_sortedI (w := w2) (g := g) (n := q) (os := #[]) z.toArray
   rw [Go.Sort.grow_empty] at h6
   exact ⟨h5, h6⟩)
  have HK := Lib.hid hk
  have HKM := Lib.hid hkm
  have HZZ := Lib.hid hzz
  have HG2 := Lib.hid hg2
  clear hw2 hrow2 hg2 hcur2 hbg2 h1 h2 h3 h4 hH2 hk hkm hzz hzl
  go_wp2_with fail
  refine HCOM.out.mono ?_
  rintro e w3 ⟨rfl, q2, rfl⟩
  obtain ⟨w3, hw3⟩ : ∃ w3, w3 = putRow (Value.int .i64) (Sort.ahead w2 q2) g 0 z.toArray := ⟨_, rfl⟩
  have hor := HOR2.out q2
  rw [<- hw3] at hor ⊢
  obtain ⟨hrow3, hg3⟩ := hor
  have HROW3 := Lib.hid hrow3
  have hne : some g ≠ some (w.heap.size + 1) := fun e => by injection e with e; have := HG.out; have := HSZ.out; omega
  have hr1 := HR0.out.below HB1.out HR0.out.lt
  have hr2 : aG w2 (w.heap.size + 1) 160 #[.int .i64 0, .bool false, .slice none 0 0] := (HG2.out.block _ hr1.lt (fun e => hne e.symm)).trans hr1
  have hr3 : aG w3 (w.heap.size + 1) 160 #[.int .i64 0, .bool false, .slice none 0 0] := (hg3.block _ hr2.lt (fun e => hne e.symm)).trans hr2
  have HR3 := Lib.hid hr3
  have r0 := hr3.cell 0
  have r1 := hr3.cell 1
  have r2 := hr3.cell 2
  have f0 := hr3.frozen 0
  have f1 := hr3.frozen 1
  have f2 := hr3.frozen 2
  simp at r0 r1 r2
  have HB3 : Hid (Below w.heap.size w w3) := Lib.hid (by
   have hs := HSZ.out
   have hgw : w.heap.size <= g := by have := HG.out; omega
   have k1 : Below w.heap.size w w1 := HBW.out.trans (HB1.out.mono (by omega))
   exact aH (aH k1 HG2.out hgw) hg3 hgw)
  clear hw3 hrow3 hg3 hr1 hr2 hr3 hne HG2
  go_wp2_with fail
  have b3 := ((HR3.out.put 0 (.int .i64 (seq + 1))).put 1 (.bool true)).put 2 (.slice (some ⟨g, 0, none⟩) k cv)
  refine dV rfl rfl (eY b3) rfl ?_
  have hkl : (bO l).length = k := by rw [HPO.out, HK.out]
  refine ⟨some ⟨g, 0, none⟩, cv, by rw [hkl], ?_, ?_⟩
  ·have hs := HSZ.out
   have hgr : g ≠ w.heap.size + 1 := by have := HG.out; omega
   have hpre := Ki HROW3.out HKM.out
   have ez : (z.map (Value.int .i64)).take k = (bO l).map (Value.int .i64) := by
    rw [<- List.map_take, HZZ.out, HPO.out, HK.out, List.take_left]
   rw [ez] at hpre
   rw [hkl]
   refine eG (base := W.heap.size) (cG hpre (fun q e => ?_)) (by omega)
   have hne : q ≠ w.heap.size + 1 := by
    injection e with e
    have e : g = q := e
    omega
   exact (Below.heap_setCell _ _ _ _ (fun e => hne e)).trans ((Below.heap_setCell _ _ _ _ (fun e => hne e)).trans (Below.heap_setCell _ _ _ _ (fun e => hne e)))
  ·exact ((HB3.out.setCell (by show w.heap.size <= w.heap.size + 1; omega) _).setCell (by show w.heap.size <= w.heap.size + 1; omega) _).setCell (by show w.heap.size <= w.heap.size + 1; omega) _
end Go.Proofs.YtingkbeifohihaaGreatDoor
