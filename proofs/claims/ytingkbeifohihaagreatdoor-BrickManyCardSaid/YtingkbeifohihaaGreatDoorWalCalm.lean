/-
  Package wal over a disk whose power does not go: what a commit leaves. No statement is proved here.
-/
import Derived.Test.YtingkbeifohihaaGreatDoorRoomSmall
import Derived.Test.YtingkbeifohihaaGreatDoorHeadNextOwn
import Derived.Test.YtingkbeifohihaaGreatDoorWalMap
import Derived.Deep.AppendLies
import Derived.Test.YtingkbeifohihaaGreatDoorDiskMade
namespace Go.Proofs.YtingkbeifohihaaGreatDoor
theorem Dl {s : List Int} (hs : s.Pairwise (fun x y => decide (x <= y) = true)) : ∀ m, m <= s.length ->
  (Lib.compactUpTo s.toArray m).Pairwise (· < ·) /\ (∀ y ∈ Lib.compactUpTo s.toArray m, ∃ k, k < m /\ s[k]? = some y) /\ (∀ k, k < m -> ∀ y, s[k]? = some y -> y ∈ Lib.compactUpTo s.toArray m) := by
 intro m
 induction m with
 | zero => intro _; exact ⟨List.Pairwise.nil, (fun y hy => by cases hy), (fun k h => by omega)⟩
 | succ m ih =>
   intro hm
   obtain ⟨h1, h2, h3⟩ := ih (by omega)
   rw [Lib.compactUpTo_succ]
   have hx : s[m]? = some s[m] := List.getElem?_eq_getElem (by omega)
   have hget : s.toArray[m]! = s[m] := by rw [getElem!_pos s.toArray m (by simpa using by omega)]; simp
   have hle : ∀ k (hk : k < m), s[k]'(by omega) <= s[m] := fun k hk => by
    have := List.pairwise_iff_getElem.1 hs k m (by omega) (by omega) hk
    simpa using this
   have hprev : 0 < m -> s.toArray[m - 1]! = s[m - 1]'(by omega) := fun _ => by rw [getElem!_pos s.toArray (m - 1) (by simpa using by omega)]; simp
   by_cases hkp : Lib.keeps s.toArray m = true
   ·rw [if_pos hkp, hget]
    refine ⟨List.pairwise_append.2 ⟨h1, List.pairwise_singleton _ _, fun y hy z hz => ?_⟩, fun y hy => ?_, fun k hk y hy => ?_⟩
    ·rw [List.mem_singleton.1 hz]
     obtain ⟨k, hk, hky⟩ := h2 y hy
     have hm0 : 0 < m := by omega
     unfold Lib.keeps at hkp
     have hkp := of_decide_eq_true hkp
     rcases hkp with hkp | hkp
     ·omega
     ·rw [hget, hprev hm0] at hkp
      have h5 := hle (m - 1) (by omega)
      have h6 : y <= s[m - 1]'(by omega) := by
       have hkk : s[k]'(by omega) = y := by
        rw [List.getElem?_eq_getElem (by omega)] at hky
        exact Option.some.inj hky
       rcases Nat.lt_or_ge k (m - 1) with h7 | h7
       ·have := List.pairwise_iff_getElem.1 hs k (m - 1) (by omega) (by omega) h7
        rw [hkk] at this
        simpa using this
       ·have : k = m - 1 := by omega
        subst this
        omega
      omega
    ·rcases List.mem_append.1 hy with hy | hy
     ·obtain ⟨k, hk, hky⟩ := h2 y hy
      exact ⟨k, by omega, hky⟩
     ·have := List.mem_singleton.1 hy
      subst this
      exact ⟨m, by omega, hx⟩
    ·rcases Nat.lt_or_ge k m with h7 | h7
     ·exact List.mem_append_left _ (h3 k h7 y hy)
     ·obtain rfl : k = m := by omega
      rw [hx] at hy
      injection hy with hy
      rw [<- hy]
      exact List.mem_append_right _ (List.mem_singleton.2 rfl)
   ·rw [if_neg hkp, List.append_nil]
    refine ⟨h1, fun y hy => ?_, fun k hk y hy => ?_⟩
    ·obtain ⟨k, hk, hky⟩ := h2 y hy
     exact ⟨k, by omega, hky⟩
    ·rcases Nat.lt_or_ge k m with h7 | h7
     ·exact h3 k h7 y hy
     ·obtain rfl : k = m := by omega
      unfold Lib.keeps at hkp
      have hkp : ¬ (k = 0 \/ s.toArray[k]! ≠ s.toArray[k - 1]!) := fun h => hkp (decide_eq_true h)
      have hk0 : 0 < k := by
       rcases Nat.eq_zero_or_pos k with h | h
       ·exact absurd (Or.inl h) hkp
       ·exact h
      have heq : s[k] = s[k - 1]'(by omega) := by
       rw [hget, hprev hk0] at hkp
       exact Classical.byContradiction fun h => hkp (.inr h)
      rw [hx] at hy
      injection hy with hy
      rw [<- hy, heq]
      exact h3 (k - 1) (by omega) _ (List.getElem?_eq_getElem (by omega))
theorem jX (l : List Int) : (bO l).Pairwise (· < ·) /\ ∀ z, z ∈ bO l ↔ z ∈ l := by
 have hp : (l.mergeSort fun x y => decide (x <= y)).Pairwise (fun x y => decide (x <= y) = true) := List.pairwise_mergeSort (by intro a b c h1 h2; simp at *; omega) (by intro a b; simp; omega) l
 obtain ⟨h1, h2, h3⟩ := Dl hp _ (Nat.le_refl _)
 refine ⟨h1, fun z => ⟨fun hz => ?_, fun hz => ?_⟩⟩
 ·obtain ⟨k, _, hk⟩ := h2 z hz
  exact List.mem_mergeSort.1 (List.mem_of_getElem? hk)
 ·obtain ⟨k, hk⟩ := List.mem_iff_getElem?.1 (List.mem_mergeSort.2 hz : z ∈ l.mergeSort fun x y => decide (x <= y))
  refine h3 k ?_ z hk
  rcases Nat.lt_or_ge k (l.mergeSort fun x y => decide (x <= y)).length with h | h
  ·exact h
  ·rw [List.getElem?_eq_none h] at hk; cases hk
open Go.RowKit
set_option maxRecDepth 100000
set_option maxHeartbeats 4000000
theorem Un {w : World} {base n g : Nat} {e t : TypeId} {v : Value} {xs : List Value} {cs : Array Value} (h : w.ownsRow base e 1 v n xs) (hb : aG w g t cs) (he : e ≠ t) : v.ownBlock ≠ some g := fun hb' => by
 rcases h.2 with ⟨rfl, _⟩ | ⟨g', cap, cur, rfl, _, hg, _⟩
 ·cases hb'
 ·injection hb' with hb'
  have hb' : g' = g := hb'
  subst hb'
  have hb : w.heap[g']? = _ := hb
  rw [hb] at hg
  injection hg with h2
  injection h2 with _ h2 _
  exact he h2.symm
theorem yV (l : List eA) (x : eA) : eQ (l ++ [x]) = eQ l ++ [.int .i64 x.1, .string x.2] := by simp [eQ]
theorem Po {P : Program} {fn : Func} {R : Ending -> World -> Prop} {a : Act} {w : World} {q r s : Tmp} {ty : TypeId} {ad : Addr} {v u t : Value} (h : fn.results = #[.cell q ty, .tmp r, .tmp s]) (hp : a.tmps.getD q undef = .pointer (some ad))
  (hl : (loadVar ty ad).run P w = .ok v w) (hu : a.tmps.getD r undef = u) (ht : a.tmps.getD s undef = t) (hd : a.defers = []) (hR : R (.returned (.tuple #[v, u, t])) w) : bodyPost P fn R .ret a w := by
 refine bodyPost_ret (v := .tuple #[v, u, t]) ?_ hd hR
 simp only [results, h]
 have hp' : a.tmps[q]?.getD undef = .pointer (some ad) := by simpa using hp
 have hu' : a.tmps[r]?.getD undef = u := by simpa using hu
 have ht' : a.tmps[s]?.getD undef = t := by simpa using ht
 simp [hp', hu', ht', asAddr, hl]
theorem Di {w : World} {gw gd m c : Nat} {seq k : Int} {O : List Nat} (A : Option Addr) (l : List eA) (h : aG w gw 162 (eS gd seq true k)) (hq : 0 <= seq /\ seq <= 1099511627776)
  (hm : l.length = m) (hl : tM w O A l) (hm0 : 0 < m) (hm2 : m <= 100000) (hr : ∀ x ∈ l, 0 <= x.1 /\ x.1 < 2000) :
  Calls Tryz.prog 145 #[.pointer (some ⟨gw, 0, none⟩), .slice A m c] w fun e w' => ∃ A' c' tn B cb C cc T, T = bO (l.map Prod.fst) /\ tn = T.length /\ e = .returned (.tuple #[.agg #[.int .i64 (seq + 1), .bool true, .slice A' tn c'], .slice B tn cb, .slice C tn cc]) /\
   w'.ownsRow w.heap.size 3 1 (.slice A' tn c') tn (T.map (Value.int .i64)) /\ w'.ownsRow w.heap.size 74 2 (.slice B tn cb) tn (eQ (cR l 0 T)) /\ w'.ownsRow w.heap.size 74 2 (.slice C tn cc) tn (eQ (eP l T)) /\ Below w.heap.size w w' := by
 obtain ⟨i0, hi, hz0, hz1, hz2⟩ := info_parts nQ
 have HW := Lib.hid h
 have HM := Lib.hid hm
 have HL := Lib.hid hl
 have HR := Lib.hid hr
 have HQ := Lib.hid hq
 have hm2' : (m : Int) <= 100000 := by omega
 have hmm := @run_makeMap Tryz.prog
 obtain ⟨gh, hgh⟩ : ∃ gh, gh = w.heap.size := ⟨_, rfl⟩
 have HGH := Lib.hid hgh
 have HI := Lib.hid hi
 clear h hm hl hr hq hi hgh
 go_enter Tryz.func145, Tryz.ntmps145
 go_upto_region 2 with fail
 obtain ⟨w1, hw1⟩ : ∃ w1, w1 = (w.alloc (.cells #[.int .i64 0, .bool false, .slice none 0 0] 160)).alloc (.map #[] 0) := ⟨_, rfl⟩
 rw [<- hw1]
 rw [<- HGH.out]
 have HS1 : Hid (w1.heap.size = gh + 2) := Lib.hid (by rw [hw1, HGH.out]; simp)
 have HBH1 : Hid (aG w1 gh 160 #[.int .i64 0, .bool false, .slice none 0 0]) := Lib.hid (by rw [hw1, HGH.out]; exact (aG.new w _ _).alloc _)
 have HMP1 : Hid (lC w1 (gh + 1) 0 (oP (l.take 0))) := Lib.hid (by
  rw [hw1, HGH.out]
  have := lC.made (w.alloc (.cells #[.int .i64 0, .bool false, .slice none 0 0] 160))
  rwa [show (w.alloc (.cells #[.int .i64 0, .bool false, .slice none 0 0] 160)).heap.size = w.heap.size + 1 by simp] at this)
 have HBW1 : Hid (Below w.heap.size w w1) := Lib.hid (by rw [hw1]; exact ((Below.refl _ _).alloc (Nat.le_refl _) _).alloc (by simp) _)
 obtain ⟨w2, hw2⟩ : ∃ w2, w2 = w1.alloc (.cells (sD l 0).toArray 3) := ⟨_, rfl⟩
 have hmk : (Instr.makeSlice 33 (.int .i64 (m : Int)) (.int .i64 (m : Int))).run Tryz.prog w1 = .ok (.slice (some ⟨gh + 2, 0, none⟩) m m) w2 := by
  have hr := run_makeSlice (P := Tryz.prog) w1 33 3 i0 (.int .i64 0) Tryz.underlying33 HI.out hz0 .i64 .i64 m m (by omega) (Int.le_refl _) (by rw [hz1]; omega) (by rw [hz2]; omega) (by omega)
  have hc : madeCells (Value.int .i64 0).cells ((m : Int).toNat * i0.size) = (sD l 0).toArray := by
   rw [hz1, Nat.mul_one, Int.toNat_natCast]
   refine Array.toList_inj.1 ?_
   rw [show (Value.int .i64 0).cells = #[Value.int .i64 0] from rfl, toList_madeCells_one]
   unfold sD
   simp [HM.out]
  rw [hc, Int.toNat_natCast, HS1.out, <- hw2] at hr
  exact hr
 have HBA2 : Hid (aG w2 (gh + 2) 3 (sD l 0).toArray) := Lib.hid (by rw [hw2, <- HS1.out]; exact aG.new w1 _ _)
 have HB12 : Hid (Below w1.heap.size w1 w2) := Lib.hid (by rw [hw2]; exact (Below.refl _ _).alloc (Nat.le_refl _) _)
 have HBH2 : Hid (aG w2 gh 160 #[.int .i64 0, .bool false, .slice none 0 0]) := Lib.hid (HBH1.out.below HB12.out HBH1.out.lt)
 have HMP2 : Hid (lC w2 (gh + 1) 0 (oP (l.take 0))) := Lib.hid (HMP1.out.below HB12.out)
 have HBW2 : Hid (Below w.heap.size w w2) := Lib.hid (HBW1.out.trans (HB12.out.mono HBW1.out.size))
 clear hw1 hw2 HBH1 HMP1 HB12
 go_upto_region 3 with fail
 clear hmk hmm
 go_wp2_with fail
 go_loopw [20] (fun i wr => ∃ j : Nat, j <= m /\ i = .int .i64 j /\ aG wr (gh + 2) 3 (sD l j).toArray /\ aG wr gh 160 #[.int .i64 0, .bool false, .slice none 0 0] /\ lC wr (gh + 1) j (oP (l.take j)) /\ Below w.heap.size w wr) (fun i _ => m - (intOf i).toNat)
 case atStart => exact ⟨0, Nat.zero_le _, rfl, HBA2.out, HBH2.out, HMP2.out, HBW2.out⟩
 case round =>
  obtain ⟨j, hj, rfl, hba, hbh, hmp, hbw⟩ := hrel
  have HBA := Lib.hid hba
  have HBH := Lib.hid hbh
  have HMP := Lib.hid hmp
  have HBW := Lib.hid hbw
  clear hba hbh hmp hbw HBA2 HBH2 HMP2 HBW2
  by_cases hlt : j < m
  ·have hjl : j < l.length := by rw [HM.out]; exact hlt
   obtain ⟨b, off, rfl, hbb, -, hc⟩ := HL.out (by omega)
   obtain ⟨x, hx⟩ : ∃ x, x = l[j] := ⟨_, rfl⟩
   have hxj : l[j]? = some x := by rw [hx]; exact List.getElem?_eq_getElem hjl
   have HXR : Hid (0 <= x.1 /\ x.1 < 2000) := Lib.hid (HR.out x (List.mem_of_getElem? hxj))
   obtain ⟨d0, d1⟩ := hc j x hxj
   have HXJ := Lib.hid hxj
   obtain ⟨xa, xs⟩ := x
   simp only at d0 d1
   have d0' : wr.cell? ⟨b, off + j * 2, none⟩ = some (.int .i64 xa) := (HBW.out.cell (p := ⟨b, off + j * 2, none⟩) hbb).trans d0
   have d1' : wr.cell? ⟨b, off + j * 2 + 1, none⟩ = some (.string xs) := (HBW.out.cell (p := ⟨b, off + j * 2 + 1, none⟩) hbb).trans d1
   have hjI : (j : Int) < (m : Int) := by omega
   clear hx hxj hjl hc d0 d1 hbb
   go_upto_region 6 with fail
   obtain ⟨wa, hwa⟩ : ∃ wa, wa = wr.alloc (.cells #[.int .i64 xa, .string xs] 74) := ⟨_, rfl⟩
   obtain ⟨gx, hgx⟩ : ∃ gx, gx = wr.heap.size := ⟨_, rfl⟩
   rw [<- hwa, <- hgx]
   have hbx : aG wa gx 74 #[.int .i64 xa, .string xs] := by rw [hwa, hgx]; exact aG.new wr _ _
   have HBX := Lib.hid hbx
   have HBRA : Hid (Below wr.heap.size wr wa) := Lib.hid (by rw [hwa]; exact (Below.refl _ _).alloc (Nat.le_refl _) _)
   have HGX : Hid (gx ≠ gh + 2 /\ w.heap.size <= gh + 2) := Lib.hid ⟨by have := HBA.out.lt; omega, by have := HGH.out; omega⟩
   have hba := HBA.out.below HBRA.out HBA.out.lt
   have HBAA := Lib.hid hba
   have a0 := hba.cell j
   have f0 := hba.frozen j
   have x0 := hbx.cell 0
   have x1 := hbx.cell 1
   simp at x0 x1
   have a0' : wa.cell? ⟨gh + 2, j, none⟩ = some (.int .i64 0) := by
    rw [a0, List.getElem?_toArray]
    unfold sD
    rw [List.getElem?_append_right (by simp; have := HM.out; omega), List.length_map, List.length_take, HM.out, show min j m = j by omega, Nat.sub_self, List.getElem?_replicate, if_pos (by omega)]
   clear hwa hgx hbx hba a0 d0' d1'
   go_upto_region 7 with fail
   obtain ⟨wb, hwb⟩ : ∃ wb, wb = wa.setCell ⟨gh + 2, j, none⟩ (.int .i64 xa) := ⟨_, rfl⟩
   rw [<- hwb]
   have HBAB : Hid (aG wb (gh + 2) 3 (sD l (j + 1)).toArray) := Lib.hid (by
    have := HBAA.out.put j (.int .i64 xa)
    rw [Nw HXJ.out] at this
    rw [hwb]
    exact this)
   have HSE : Hid (∀ b, b ≠ gh + 2 -> wb.heap[b]? = wa.heap[b]?) := Lib.hid (fun b hb => by rw [hwb]; exact Below.heap_setCell _ _ _ _ (fun e => hb e))
   have hmpb : lC wb (gh + 1) j (oP (l.take j)) := (HMP.out.below HBRA.out).kept (HSE.out _ (by omega))
   have hbhb : aG wb gh 160 #[.int .i64 0, .bool false, .slice none 0 0] := Eq.trans (HSE.out _ (by omega)) (HBH.out.below HBRA.out HBH.out.lt)
   have HBHB := Lib.hid hbhb
   have HBWB : Hid (Below w.heap.size w wb) := Lib.hid (by rw [hwb]; exact (HBW.out.trans (HBRA.out.mono HBW.out.size)).setCell HGX.out.2 _)
   obtain ⟨wd, hrun, hmpd, hgrd⟩ := hmpb.update (by omega) (k := xa) (v := (j : Int)) (by have := HXR.out.1; simp only at this; omega) (by have := HXR.out.2; simp only at this; omega) (by omega) (by omega)
   have HMPD : Hid (lC wd (gh + 1) (j + 1) (oP (l.take (j + 1)))) := Lib.hid (by rw [yA HXJ.out]; exact hmpd)
   have HBAD : Hid (aG wd (gh + 2) 3 (sD l (j + 1)).toArray) := Lib.hid (HBAB.out.grown hgrd (fun e => by injection e with e; omega))
   have HBHD : Hid (aG wd gh 160 #[.int .i64 0, .bool false, .slice none 0 0]) := Lib.hid (HBHB.out.grown hgrd (fun e => by injection e with e; omega))
   have HBWD : Hid (Below w.heap.size w wd) := Lib.hid (HBWB.out.grown hgrd HBWB.out.size (fun k e => by injection e with e; have := HGH.out; omega))
   have x0' : wb.cell? ⟨gx, 0, none⟩ = some (.int .i64 xa) := by rw [World.cell?_of_block (a := ⟨gx, 0, none⟩) (HSE.out _ HGX.out.1)]; exact x0
   clear hwb hmpb hbhb hmpd hgrd a0' f0 x0 x1
   go_wp2_with fail
   clear hrun x0'
   go_roundw
   case rel => exact ⟨j + 1, by omega, by go_num, HBAD.out, HBHD.out, HMPD.out, HBWD.out⟩
   case measure => simp [intOf]; omega
  ·obtain rfl : m = j := by omega
   clear hlt hj
   have HIN : Hid (dZ wr wr.heap.size (some ⟨gh + 2, 0, none⟩) (l.map Prod.fst)) := Lib.hid (Nx (by rw [HM.out]; exact HBA.out))
   have hwal := HW.out.below HBW.out HW.out.lt
   have c1 := hwal.cell 1
   have c2 := hwal.cell 2
   have c3 := hwal.cell 3
   simp [eS] at c1 c2 c3
   obtain ⟨T, hT⟩ : ∃ T, T = bO (l.map Prod.fst) := ⟨_, rfl⟩
   obtain ⟨tn, htn⟩ : ∃ tn, tn = T.length := ⟨_, rfl⟩
   have HNX : Hid (Calls Tryz.prog 179 #[.agg #[.int .i64 seq, .bool false, .slice none 0 0], .slice (some ⟨gh + 2, 0, none⟩) m m] wr fun e w' => ∃ A' c', e = .returned (.agg #[.int .i64 (seq + 1), .bool true, .slice A' tn c']) /\ w'.ownsRow wr.heap.size 3 1 (.slice A' tn c') tn (T.map (Value.int .i64)) /\ Below wr.heap.size wr w') := Lib.hid (by
    refine (Pq (HD.mk seq false []) none 0 (some ⟨gh + 2, 0, none⟩) m m (l.map Prod.fst) wr (by rw [List.length_map]; exact HM.out) HIN.out (fun h => by cases h) HQ.out (by omega)).mono ?_
    rintro e w' ⟨A', c', rfl, h1, h2⟩
    rw [<- hT, <- htn] at h1
    refine ⟨A', c', ?_, h1, h2⟩
    unfold HD.val
    simp only
    rw [<- hT, <- htn])
   have HTT := Lib.hid hT
   have HTN := Lib.hid htn
   have HRNG : Hid (∀ x ∈ l.map Prod.fst, 0 <= x /\ x < 2000) := Lib.hid (fun x hx => by
    obtain ⟨y, hy, rfl⟩ := List.mem_map.1 hx
    exact HR.out y hy)
   have HTM : Hid (∀ t ∈ T, t ∈ l.map Prod.fst) := Lib.hid (fun t ht => by rw [hT] at ht; exact ((jX _).2 t).1 ht)
   have htm : (tn : Int) <= 100000 := by
    have := (yX HRNG.out).2.2
    rw [<- hT, <- htn, List.length_map, HM.out] at this
    omega
   clear hwal hT htn
   go_wp2_with fail
   refine HNX.out.mono ?_
   rintro e w3 ⟨A', c', rfl, hrow, hb3⟩
   have HROW := Lib.hid hrow
   have HB3 := Lib.hid hb3
   have hbh3 := HBH.out.below hb3 HBH.out.lt
   have HBH3 := Lib.hid hbh3
   have z0 := hbh3.cell 0
   have z1 := hbh3.cell 1
   have z2 := hbh3.cell 2
   have y0 := hbh3.frozen 0
   have y1 := hbh3.frozen 1
   have y2 := hbh3.frozen 2
   simp at z0 z1 z2
   clear hrow hb3 hbh3 c1 c2 c3 HNX
   go_upto_region 10 with fail
   obtain ⟨w4, hw4⟩ : ∃ w4, w4 = ((w3.setCell ⟨gh, 0, none⟩ (.int .i64 (seq + 1))).setCell ⟨gh, 1, none⟩ (.bool true)).setCell ⟨gh, 2, none⟩ (.slice A' tn c') := ⟨_, rfl⟩
   rw [<- hw4]
   have HSE4 : Hid (∀ b, b ≠ gh -> w4.heap[b]? = w3.heap[b]?) := Lib.hid (fun b hb => by rw [hw4]; exact (Below.heap_setCell _ _ _ _ (fun e => hb e)).trans ((Below.heap_setCell _ _ _ _ (fun e => hb e)).trans (Below.heap_setCell _ _ _ _ (fun e => hb e))))
   have HBH4 : Hid (aG w4 gh 160 #[.int .i64 (seq + 1), .bool true, .slice A' tn c']) := Lib.hid (by rw [hw4]; exact ((HBH3.out.put 0 (.int .i64 (seq + 1))).put 1 (.bool true)).put 2 (.slice A' tn c'))
   have HW4 : Hid (Below w.heap.size w w4) := Lib.hid (by
    have hg : w.heap.size <= gh := by have := HGH.out; omega
    rw [hw4]
    exact (((HBW.out.trans (HB3.out.mono HBW.out.size)).setCell hg _).setCell hg _).setCell hg _)
   have HT4 : Hid (w4.ownsRow w.heap.size 3 1 (.slice A' tn c') tn (T.map (Value.int .i64))) := Lib.hid (eG (cG HROW.out (fun b hb => HSE4.out b (by have := (HROW.out.lt b hb).1; have := HBH.out.lt; omega))) HBW.out.size)
   have HMP4 : Hid (lC w4 (gh + 1) m (oP l)) := Lib.hid (by
    have h := HMP.out
    rw [List.take_of_length_le (by rw [HM.out]; exact Nat.le_refl _)] at h
    exact (h.below HB3.out).kept (HSE4.out _ (by omega)))
   have HTI : Hid (dZ w4 w4.heap.size A' T) := Lib.hid (by have h := HT4.out; have e := HTN.out; rw [e] at h; exact sN h)
   have z2 := HBH4.out.cell 2
   simp at z2
   clear hw4 z0 z1 y0 y1 y2 HBH HBH3 HROW HB3 HSE4 HMP HIN HBA
   go_wp2_with fail
   obtain ⟨i1, hi1, hy0, hy1, hy2⟩ := info_parts qF
   have HI1 := Lib.hid hi1
   clear hi1
   go_loopw [5, 6, 44] (fun s5 s6 i wz => ∃ (j : Nat) (B : Option Addr) (cb : Nat) (C : Option Addr) (cc : Nat), j <= tn /\ i = .int .i64 j /\ s5 = .slice B j cb /\ s6 = .slice C j cc /\ wz.ownsRow w4.heap.size 74 2 (.slice B j cb) j (eQ (cR l 0 (T.take j))) /\ wz.ownsRow w4.heap.size 74 2 (.slice C j cc) j (eQ (eP l (T.take j))) /\
    (∀ b, (Value.slice B j cb).ownBlock = some b -> (Value.slice C j cc).ownBlock ≠ some b) /\ Below w4.heap.size w4 wz) (fun _ _ i _ => tn - (intOf i).toNat)
   case atStart => exact ⟨0, none, 0, none, 0, Nat.zero_le _, rfl, rfl, rfl, World.ownsRow_nil _ _ _ _, World.ownsRow_nil _ _ _ _, (fun _ h => by cases h), Below.refl _ _⟩
   case round =>
    obtain ⟨j, B, cb, C, cc, hj, rfl, rfl, rfl, hrb, hrc, hbc, hbz⟩ := hrel
    have HRB := Lib.hid hrb
    have HRC := Lib.hid hrc
    have HBC := Lib.hid hbc
    have HBZ := Lib.hid hbz
    clear hrb hrc hbc hbz z2
    by_cases hlt : j < tn
    ·have hjl : j < T.length := by rw [<- HTN.out]; exact hlt
     obtain ⟨gt, ot, rfl, hgt, hct⟩ := HTI.out (by omega)
     obtain ⟨t, ht⟩ : ∃ t, t = T[j] := ⟨_, rfl⟩
     have htj : T[j]? = some t := by rw [ht]; exact List.getElem?_eq_getElem hjl
     have htm := HTM.out t (List.mem_of_getElem? htj)
     have htr := HRNG.out t htm
     obtain ⟨i, x, hix, hil, hxi, hxt, hxd⟩ := Bk l htm
     obtain ⟨b, off, rfl, hbb, -, hc⟩ := HL.out (by omega)
     obtain ⟨-, d1⟩ := hc i x hxi
     obtain ⟨D, hD⟩ : ∃ D, D = gR l t := ⟨_, rfl⟩
     rw [hxd, <- hD] at d1
     have d1' : wr.cell? ⟨b, off + i * 2 + 1, none⟩ = some (.string D) := by
      rw [HBZ.out.cell (p := ⟨b, off + i * 2 + 1, none⟩) (Nat.lt_of_lt_of_le hbb HW4.out.size), HW4.out.cell (p := ⟨b, off + i * 2 + 1, none⟩) hbb]
      exact d1
     have ct' : wr.cell? ⟨gt, ot + j, none⟩ = some (.int .i64 t) := by
      rw [HBZ.out.cell (p := ⟨gt, ot + j, none⟩) hgt]
      exact hct j t htj
     have hlk := (HMP4.out.below HBZ.out).look (k := t) (by omega) (by omega)
     rw [hix] at hlk
     have HNB : Hid (cR l 0 (T.take (j + 1)) = cR l 0 (T.take j) ++ [(1 + (j : Int), D)]) := Lib.hid (by
      rw [List.take_add_one, htj, hD]
      have := Db l t (T.take j) 0
      rw [show 0 + (T.take j).length = j by rw [List.length_take]; omega] at this
      exact this)
     have HNC : Hid (eP l (T.take (j + 1)) = eP l (T.take j) ++ [(111 + t, D)]) := Lib.hid (by
      rw [List.take_add_one, htj, hD]
      exact Iw l t (T.take j))
     have hjI : (j : Int) < (tn : Int) := by omega
     have hiI : (i : Int) < (m : Int) := by have := HM.out; omega
     have hj3 : j < 1000000 := by omega
     obtain ⟨ht0, ht1⟩ := htr
     clear hjl ht htj htm hix hil hxi hxt hxd hc d1 hD hct hgt hbb
     go_upto_region 15 with (at_builtin; refine wpList_append_lies _ rfl (.tmp 56) (.tmp 61) 71 rfl w4.heap.size 74 i1 (.agg #[.int .i64 0, .string .empty]) 2 24 Tryz.underlying71 HI1.out hy0 hy1 hy2 rfl (by omega) _ j _ rfl (HRB.out.alloc _) ⟨wr.heap.size, 0, none⟩ 1 1 [.int .i64 (1 + (j : Int)), .string D] rfl rfl ?c1 ?c2 (by omega) (by unfold maxLen; omega) (by omega) (by have := HBZ.out.size; simp; omega) _ rfl ?_)
     case c1 =>
      intro a u ha
      match a, ha with
      | 0, ha => simp at ha; subst ha; simp [Addr.add]
      | 1, ha => simp at ha; subst ha; simp [Addr.add]
     case c2 => intro u hu; simp at hu; rcases hu with rfl | rfl <;> rfl
     intro g2 cap2 wB hownB hgB horB hltB
     have HSB : Hid ((wr.alloc (.cells #[.int .i64 (1 + (j : Int)), .string D] 74)).heap.size = wr.heap.size + 1) := Lib.hid (by simp)
     have hg2 : (Value.slice B j cb).ownBlock = some g2 \/ wr.heap.size <= g2 := horB.imp id (fun h => by have := HSB.out; omega)
     have HG2 := Lib.hid hg2
     have HL2 := Lib.hid hltB
     have HRB2 : Hid (wB.ownsRow w4.heap.size 74 2 (.slice (some ⟨g2, 0, none⟩) (j + 1) cap2) (j + 1) (eQ (cR l 0 (T.take (j + 1))))) := Lib.hid (by rw [HNB.out, yV]; exact hownB)
     have HRC2 : Hid (wB.ownsRow w4.heap.size 74 2 (.slice C j cc) j (eQ (eP l (T.take j)))) := Lib.hid (cG HRC.out (fun b hb => by
      have hlt := (HRC.out.lt b hb).2
      exact (hgB.block b (by rw [HSB.out]; omega) (fun e => HBC.out b e.symm hb)).trans (Below.heap_alloc _ _ _ hlt)))
     have HBZ2 : Hid (Below w4.heap.size w4 wB) := Lib.hid ((HBZ.out.alloc HBZ.out.size _).grown hgB (by rw [HSB.out]; have := HBZ.out.size; omega) (fun q e => (HRB.out.lt q e).1))
     have HCG : Hid (∀ b, (Value.slice C j cc).ownBlock = some b -> b ≠ g2 /\ b < wB.heap.size) := Lib.hid (fun b hb => by
      have hlt := (HRC.out.lt b hb).2
      refine ⟨fun e => ?_, (HRC2.out.lt b hb).2⟩
      subst e
      rcases HG2.out with h | h
      ·exact HBC.out b h hb
      ·omega)
     clear hownB hgB horB hltB hg2 hlk d1' ct'
     go_wp2_with (at_builtin; refine wpList_append_lies _ rfl (.tmp 63) (.tmp 68) 71 rfl w4.heap.size 74 i1 (.agg #[.int .i64 0, .string .empty]) 2 24 Tryz.underlying71 HI1.out hy0 hy1 hy2 rfl (by omega) _ j _ rfl (HRC2.out.alloc _) ⟨wB.heap.size, 0, none⟩ 1 1 [.int .i64 (111 + t), .string D] rfl rfl ?c3 ?c4 (by omega) (by unfold maxLen; omega) (by omega) (by have := HBZ2.out.size; simp; omega) _ rfl ?_)
     case c3 =>
      intro a u ha
      match a, ha with
      | 0, ha => simp at ha; subst ha; simp [Addr.add]
      | 1, ha => simp at ha; subst ha; simp [Addr.add]
     case c4 => intro u hu; simp at hu; rcases hu with rfl | rfl <;> rfl
     intro g3 cap3 wC hownC hgC horC hltC
     have HSC : Hid ((wB.alloc (.cells #[.int .i64 (111 + t), .string D] 74)).heap.size = wB.heap.size + 1) := Lib.hid (by simp)
     have HRC3 : Hid (wC.ownsRow w4.heap.size 74 2 (.slice (some ⟨g3, 0, none⟩) (j + 1) cap3) (j + 1) (eQ (eP l (T.take (j + 1))))) := Lib.hid (by rw [HNC.out, yV]; exact hownC)
     have HRB3 : Hid (wC.ownsRow w4.heap.size 74 2 (.slice (some ⟨g2, 0, none⟩) (j + 1) cap2) (j + 1) (eQ (cR l 0 (T.take (j + 1))))) := Lib.hid (cG HRB2.out (fun b hb => by
      have hlt := (HRB2.out.lt b hb).2
      have e2 : g2 = b := by injection hb
      exact (hgC.block b (by rw [HSC.out]; omega) (fun e => (HCG.out b e.symm).1 e2.symm)).trans (Below.heap_alloc _ _ _ hlt)))
     have HBZ3 : Hid (Below w4.heap.size w4 wC) := Lib.hid ((HBZ2.out.alloc HBZ2.out.size _).grown hgC (by rw [HSC.out]; have := HBZ2.out.size; omega) (fun q e => (HRC2.out.lt q e).1))
     have HAP : Hid (∀ b, (Value.slice (some ⟨g2, 0, none⟩) (j + 1) cap2).ownBlock = some b -> (Value.slice (some ⟨g3, 0, none⟩) (j + 1) cap3).ownBlock ≠ some b) := Lib.hid (fun b hb hb' => by
      have e2 : g2 = b := by injection hb
      have e3 : g3 = b := by injection hb'
      have h2 := HL2.out
      rcases horC with h | h
      ·exact (HCG.out g3 h).1 (by omega)
      ·have := HSC.out; omega)
     clear hownC hgC horC hltC
     go_wp2_with fail
     go_roundw
     case rel => exact ⟨j + 1, some ⟨g2, 0, none⟩, cap2, some ⟨g3, 0, none⟩, cap3, by omega, by go_num, rfl, rfl, HRB3.out, HRC3.out, HAP.out, HBZ3.out⟩
     case measure => simp [intOf]; omega
    ·obtain rfl : tn = j := by omega
     have hbh := HBH4.out.below HBZ.out HBH4.out.lt
     have HBHZ := Lib.hid hbh
     have z0 := hbh.cell 0
     have z1 := hbh.cell 1
     have z2 := hbh.cell 2
     have y0 := hbh.frozen 0
     have y1 := hbh.frozen 1
     have y2 := hbh.frozen 2
     simp at z0 z1 z2
     have HTA : Hid (T.take tn = T) := Lib.hid (List.take_of_length_le (by rw [<- HTN.out]; exact Nat.le_refl _))
     have hrb := HRB.out
     have hrc := HRC.out
     rw [HTA.out] at hrb hrc
     have HRB' := Lib.hid hrb
     have HRC' := Lib.hid hrc
     clear hbh hlt hj hrb hrc
     go_wp2_with fail
     have HFIN : Hid (∀ u0 u1 u2, ∀ b, b ≠ gh -> (((wr.setCell ⟨gh, 0, none⟩ u0).setCell ⟨gh, 1, none⟩ u1).setCell ⟨gh, 2, none⟩ u2).heap[b]? = wr.heap[b]?) := Lib.hid (fun u0 u1 u2 b hb => (Below.heap_setCell _ _ _ _ (fun e => hb e)).trans ((Below.heap_setCell _ _ _ _ (fun e => hb e)).trans (Below.heap_setCell _ _ _ _ (fun e => hb e))))
     have b5 := ((HBHZ.out.put 0 (.int .i64 (seq + 1))).put 1 (.bool true)).put 2 (.slice A' tn c')
     have hgw : w.heap.size <= gh := by have := HGH.out; omega
     have hgh4 : gh < w4.heap.size := HBH4.out.lt
     refine Po rfl rfl (eY b5) rfl rfl rfl ?_
     refine ⟨A', c', tn, B, cb, C, cc, T, HTT.out, HTN.out, rfl, ?_, ?_, ?_, ?_⟩
     ·refine cG (dR HT4.out HBZ.out) (fun b hb => HFIN.out _ _ _ b (fun e => ?_))
      exact Un HT4.out HBH4.out (by decide) (by rw [<- e]; exact hb)
     ·exact eG (cG HRB'.out (fun b hb => HFIN.out _ _ _ b (by have := (HRB'.out.lt b hb).1; omega))) HW4.out.size
     ·exact eG (cG HRC'.out (fun b hb => HFIN.out _ _ _ b (by have := (HRC'.out.lt b hb).1; omega))) HW4.out.size
     ·exact (((HW4.out.trans (HBZ.out.mono HW4.out.size)).setCell hgw _).setCell hgw _).setCell hgw _
set_option maxRecDepth 100000
set_option maxHeartbeats 4000000
structure CR where
 S : DS
 seq : Int
 up : Bool
 k : Int
 e : Int
def dF (seq : Int) (l : List eA) (T : List Int) : List (List eA) := [cR l 0 T, [(0, bs (HD.mk (seq + 1) true T).text)], eP l T, [(0, bs (HD.mk (seq + 1) false []).text)]]
def bV (S : DS) (seq k : Int) (l : List eA) : CR :=
 if lE ((S.now.length : Int) - 111) l ≠ 0 then ⟨S, seq, true, k, lE ((S.now.length : Int) - 111) l⟩
 else if l.length = 0 then ⟨S, seq, true, k, 0⟩
 else if 110 < (bO (l.map Prod.fst)).length then ⟨S, seq, true, k, 21⟩
 else if lD S (dF seq l (bO (l.map Prod.fst))) = 0 then ⟨jV S (dF seq l (bO (l.map Prod.fst))), seq + 1, true, k + 1, 0⟩
 else ⟨jV S (dF seq l (bO (l.map Prod.fst))), seq, false, k, lD S (dF seq l (bO (l.map Prod.fst)))⟩
def Kh (O : List Nat) (gw gd : Nat) (R : CR) (w w' : World) : Prop :=
 ∃ O', bE w' O' gd R.S /\ (∀ b ∈ O', b ∈ O \/ w.heap.size <= b) /\ aR (gw :: O) w w' /\ aG w' gw 162 (eS gd R.seq R.up R.k)
theorem pV {m : Int} : ∀ {l : List eA}, lE m l = 0 -> ∀ x ∈ l, 0 <= x.1 /\ x.1 < m /\ x.2.size = 256
 | [], _, x, hx => by cases hx
 | y :: r, h, x, hx => by
   unfold lE at h
   split at h
   ·rename_i h1
    split at h
    ·rename_i h2
     rcases List.mem_cons.1 hx with rfl | hx
     ·exact ⟨h1.1, h1.2, h2⟩
     ·exact pV h x hx
    ·cases h
   ·cases h
theorem yS {w : World} {base n c : Nat} {B : Option Addr} {l : List eA} {O : List Nat} (h : w.ownsRow base 74 2 (.slice B n c) n (eQ l)) (hO : ∀ b ∈ O, b < base) : tM w O B l := fun hp => by
 rcases h.2 with ⟨h1, h2⟩ | ⟨g, cap, cur, e, hb, hg, _⟩
 ·have := h.1
  rw [Bw] at this
  omega
 ·injection e with e _ _
  refine ⟨g, 0, e, (h.lt g (by rw [e]; rfl)).2, fun hm => by have := hO g hm; omega, fun j x hx => ?_⟩
  obtain ⟨q1, q2⟩ := tU hx
  subst e
  have c1 := h.cells (g := g) rfl _ _ q1
  have c2 := h.cells (g := g) rfl _ _ q2
  rw [fY] at c1 c2
  rw [show 0 + j * 2 = 0 + 2 * j by omega, show 0 + 2 * j + 1 = 0 + (2 * j + 1) by omega]
  exact ⟨c1, c2⟩
theorem Gm {w : World} {b base : Nat} {X : ByteArray} {t : Int} {O : List Nat} (h : aG w b 74 #[.int .i64 t, .string X]) (hO : ∀ b ∈ O, b < base) (hb : base <= b) : tM w O (some ⟨b, 0, none⟩) [(t, X)] := fun _ =>
 ⟨b, 0, rfl, h.lt, fun hm => by have := hO b hm; omega, fun j x hx => by
  match j, hx with
  | 0, hx =>
    injection hx with hx
    subst hx
    exact ⟨h.cell 0, h.cell 1⟩⟩
theorem yT {seq : Int} {l : List Int} (h0 : 0 <= seq) (h1 : seq < 1099511627776) (hl : 0 < l.length) (hr : ∀ x ∈ l, 0 <= x /\ x < 2000) (hn : (bO l).length <= 110) : (HD.mk (seq + 1) true (bO l)).validB = true := by
 obtain ⟨p1, p2, _⟩ := yX hr
 have := p2 hl
 unfold HD.validB
 simp only [if_true, p1, Bool.and_true, Bool.and_eq_true, decide_eq_true_eq]
 exact ⟨⟨by omega, by omega⟩, by omega, hn⟩
theorem yU {seq : Int} (h0 : 0 <= seq) (h1 : seq <= 1099511627776) : (HD.mk seq false []).validB = true := by
 unfold HD.validB
 simp
 exact ⟨h0, h1⟩
theorem Gn {w : World} {gw gd m c : Nat} {seq k : Int} {O : List Nat} {S : DS} (A : Option Addr) (l : List eA) (h : aG w gw 162 (eS gd seq true k)) (hd : bE w O gd S) (hok : S.Ok) (hgw : gw ∉ O)
  (h1 : 111 <= S.now.length) (h2 : S.now.length <= 2000) (hq : 0 <= seq /\ seq < 1099511627776) (hk : 0 <= k /\ k < 1000000000000) (hm : l.length = m) (hl : tM w O A l) (hm2 : m <= 100000)
  (hlb : S.left <= 9223372036854775807) (hwb : S.writes < 900000000000) (hdb : S.dirty.length < 900000000000) :
  Calls Tryz.prog 98 #[.pointer (some ⟨gw, 0, none⟩), .slice A m c] w fun e w' => e = .returned (.int .i64 (bV S seq k l).e) /\ Kh O gw gd (bV S seq k l) w w' := by
 have hgl := h.lt
 have HOL : Hid (∀ b ∈ O, b < w.heap.size) := Lib.hid (fun b hb => hd.lt hb)
 have SAME : ∀ w', Below w.heap.size w w' -> ∀ e, Kh O gw gd ⟨S, seq, true, k, e⟩ w w' := fun w' hb e => ⟨O, hd.below hb, fun b hb => .inl hb, aR.of_below hb, h.below hb h.lt⟩
 have HSAME := Lib.hid SAME
 obtain ⟨E, hE⟩ : ∃ E, E = lE ((S.now.length : Int) - 111) l := ⟨_, rfl⟩
 have HREF : Hid (Calls Tryz.prog 144 #[.pointer (some ⟨gw, 0, none⟩), .slice A m c] w fun e w' => e = .returned (.int .i64 E) /\ Below w.heap.size w w') := Lib.hid (by rw [hE]; exact Fn A l h hd rfl h1 h2 hm hl hm2)
 have hm2' : (m : Int) <= 100000 := by omega
 by_cases he : E = 0
 ·by_cases hm0 : m = 0
  ·have R : bV S seq k l = ⟨S, seq, true, k, 0⟩ := by unfold bV; rw [if_neg (by rw [<- hE]; exact fun h => h he), if_pos (by omega)]
   rw [R]
   subst he
   subst hm0
   clear R hE SAME h hd hok hgw h1 h2 hq hk hm hl hlb hwb hdb hm2
   go_enter Tryz.func98, Tryz.ntmps98
   go_wp2_with fail
   refine HREF.out.mono ?_
   rintro e w1 ⟨rfl, hb1⟩
   go_wp2_with fail
   go_ret
   exact ⟨rfl, HSAME.out _ hb1 _⟩
  ·have hmp : 0 < m := by omega
   have HRNG : Hid (∀ x ∈ l, 0 <= x.1 /\ x.1 < 2000) := Lib.hid (fun x hx => by
    have := pV (hE.symm.trans he) x hx
    omega)
   obtain ⟨T, hT⟩ : ∃ T, T = bO (l.map Prod.fst) := ⟨_, rfl⟩
   have HARR : Hid (∀ wx, Below w.heap.size w wx -> Calls Tryz.prog 145 #[.pointer (some ⟨gw, 0, none⟩), .slice A m c] wx fun e w' => ∃ A' c' tn B cb C cc, tn = T.length /\ e = .returned (.tuple #[.agg #[.int .i64 (seq + 1), .bool true, .slice A' tn c'], .slice B tn cb, .slice C tn cc]) /\
     w'.ownsRow wx.heap.size 3 1 (.slice A' tn c') tn (T.map (Value.int .i64)) /\ w'.ownsRow wx.heap.size 74 2 (.slice B tn cb) tn (eQ (cR l 0 T)) /\ w'.ownsRow wx.heap.size 74 2 (.slice C tn cc) tn (eQ (eP l T)) /\ Below wx.heap.size wx w') := Lib.hid (fun wx hx => by
    refine (Di A l (h.below hx h.lt) ⟨hq.1, by omega⟩ hm (hl.below hx) hmp hm2 HRNG.out).mono ?_
    rintro e w' ⟨A', c', tn, B, cb, C, cc, T', rfl, e2, e3, r1, r2, r3, r4⟩
    rw [<- hT] at e2 r1 r2 r3
    exact ⟨A', c', tn, B, cb, C, cc, e2, e3, r1, r2, r3, r4⟩)
   have HM := Lib.hid hm
   by_cases hbig : 110 < T.length
   ·have R : bV S seq k l = ⟨S, seq, true, k, 21⟩ := by unfold bV; rw [if_neg (by rw [<- hE]; exact fun h => h he), if_neg (by omega), if_pos (by rw [<- hT]; exact hbig)]
    rw [R]
    subst he
    have HBIG := Lib.hid hbig
    have hm0' : ((m : Int) == 0) = false := by simp; omega
    clear R hE SAME h hd hok hgw h1 h2 hq hk hm hl hlb hwb hdb hm2 hbig hT
    go_enter Tryz.func98, Tryz.ntmps98
    go_wp2_with fail
    refine HREF.out.mono ?_
    rintro e w1 ⟨rfl, hb1⟩
    have HB1 := Lib.hid hb1
    clear hb1
    go_wp2_with fail
    refine (HARR.out _ HB1.out).mono ?_
    rintro e w2 ⟨A', c', tn, B, cb, C, cc, htn, rfl, -, -, -, hb2⟩
    have hbn : (110 : Int) < (tn : Int) := by have := HBIG.out; omega
    have HB2 := Lib.hid (HB1.out.trans (hb2.mono HB1.out.size))
    clear hb2 htn
    go_wp2_with fail
    go_ret
    exact ⟨rfl, HSAME.out _ (HB2.out.alloc HB2.out.size _) _⟩
   ·have R : bV S seq k l = if lD S (dF seq l T) = 0 then ⟨jV S (dF seq l T), seq + 1, true, k + 1, 0⟩ else ⟨jV S (dF seq l T), seq, false, k, lD S (dF seq l T)⟩ := by
     unfold bV; rw [if_neg (by rw [<- hE]; exact fun h => h he), if_neg (by omega), if_neg (by rw [<- hT]; exact hbig), <- hT]
    rw [R]
    obtain ⟨G, hG⟩ : ∃ G, G = dF seq l T := ⟨_, rfl⟩
    rw [<- hG]
    obtain ⟨E2, hE2⟩ : ∃ E2, E2 = lD S G := ⟨_, rfl⟩
    obtain ⟨S2, hS2⟩ : ∃ S2, S2 = jV S G := ⟨_, rfl⟩
    rw [<- hE2, <- hS2]
    have HE2 := Lib.hid hE2
    have HS2E := Lib.hid hS2
    obtain ⟨RR, hRR⟩ : ∃ RR, RR = if E2 = 0 then CR.mk S2 (seq + 1) true (k + 1) 0 else CR.mk S2 seq false k E2 := ⟨_, rfl⟩
    rw [<- hRR]
    have HRR := Lib.hid hRR
    clear hRR
    clear hE2 hS2
    have hv1 : (HD.mk (seq + 1) true T).validB = true := by rw [hT]; exact yT hq.1 hq.2 (by rw [List.length_map]; omega) (fun x hx => by obtain ⟨y, hy, rfl⟩ := List.mem_map.1 hx; exact HRNG.out y hy) (by rw [<- hT]; omega)
    have hv2 : (HD.mk (seq + 1) false []).validB = true := yU (by omega) (by omega)
    obtain ⟨X1, hX1⟩ : ∃ X1, X1 = bs (HD.mk (seq + 1) true T).text := ⟨_, rfl⟩
    obtain ⟨X2, hX2⟩ : ∃ X2, X2 = bs (HD.mk (seq + 1) false []).text := ⟨_, rfl⟩
    have HGE : Hid (G = [cR l 0 T, [(0, X1)], eP l T, [(0, X2)]]) := Lib.hid (by rw [hG, hX1, hX2]; rfl)
    have HSEC1 : Hid (∀ wx A' c' tn, tn = T.length -> wx.ownsRow w.heap.size 3 1 (.slice A' tn c') tn (T.map (Value.int .i64)) -> Calls Tryz.prog 146 #[.agg #[.int .i64 (seq + 1), .bool true, .slice A' tn c']] wx fun e w' => ∃ b, e = .returned (.tuple #[.slice (some ⟨b, 0, none⟩) 1 1, .int .i64 0]) /\ aG w' b 74 #[.int .i64 0, .string X1] /\ wx.heap.size <= b /\ Below wx.heap.size wx w') := Lib.hid (fun wx A' c' tn htn hr => by
     subst htn
     refine (uT (HD.mk (seq + 1) true T) A' c' wx ⟨sN hr, by show T.length <= _; omega⟩).mono ?_
     rintro e w' ⟨b, X, k', rfl, hs, r1, r2, r3⟩
     unfold Fp at hs
     rw [if_pos hv1] at hs
     obtain ⟨rfl, rfl⟩ := hs
     exact ⟨b, rfl, by rw [hX1]; exact r1, r2, r3⟩)
    have HSEC2 : Hid (∀ wx, Calls Tryz.prog 146 #[.agg #[.int .i64 (seq + 1), .bool false, .slice none 0 0]] wx fun e w' => ∃ b, e = .returned (.tuple #[.slice (some ⟨b, 0, none⟩) 1 1, .int .i64 0]) /\ aG w' b 74 #[.int .i64 0, .string X2] /\ wx.heap.size <= b /\ Below wx.heap.size wx w') := Lib.hid (fun wx => by
     refine (uT (HD.mk (seq + 1) false []) none 0 wx ⟨dZ.nil _ _ _, by show 0 <= _; omega⟩).mono ?_
     rintro e w' ⟨b, X, k', rfl, hs, r1, r2, r3⟩
     unfold Fp at hs
     rw [if_pos hv2] at hs
     obtain ⟨rfl, rfl⟩ := hs
     exact ⟨b, rfl, by rw [hX2]; exact r1, r2, r3⟩)
    have HDONE : Hid (∀ wx A' c' tn, tn = T.length -> Calls Tryz.prog 137 #[.agg #[.int .i64 (seq + 1), .bool true, .slice A' tn c']] wx fun e w' => e = .returned (.agg #[.int .i64 (seq + 1), .bool false, .slice none 0 0]) /\ Below wx.heap.size wx w') := Lib.hid (fun wx A' c' tn htn => by
     subst htn
     exact Bq (HD.mk (seq + 1) true T) A' c' wx)
    have HLEN : Hid (T.length <= 110) := Lib.hid (by omega)
    have HW := Lib.hid h
    have HD := Lib.hid hd
    have HGW := Lib.hid hgw
    have HOK := Lib.hid hok
    have HBND := Lib.hid (And.intro hlb (And.intro hwb hdb))
    have HK := Lib.hid hk
    subst he
    have hm0' : ((m : Int) == 0) = false := by simp; omega
    clear R hE SAME h hd hok hgw h1 h2 hq hk hm hl hlb hwb hdb hm2 hbig hT hv1 hv2 hX1 hX2 hG
    go_enter Tryz.func98, Tryz.ntmps98
    go_wp2_with fail
    refine HREF.out.mono ?_
    rintro e w1 ⟨rfl, hb1⟩
    have HB1 := Lib.hid hb1
    clear hb1
    go_wp2_with fail
    refine (HARR.out _ HB1.out).mono ?_
    rintro e w2 ⟨A', c', tn, B, cb, C, cc, htn, rfl, hr1, hr2, hr3, hb2⟩
    have hbn : (tn : Int) <= 110 := by have := HLEN.out; omega
    have HTN := Lib.hid htn
    have HR1 := Lib.hid (eG hr1 HB1.out.size)
    have HR2 := Lib.hid (eG hr2 HB1.out.size)
    have HR3 := Lib.hid (eG hr3 HB1.out.size)
    have HB2 := Lib.hid (HB1.out.trans (hb2.mono HB1.out.size))
    clear hb2 htn hr1 hr2 hr3
    go_upto_region 5 with fail
    obtain ⟨w3, hw3⟩ : ∃ w3, w3 = w2.alloc (.cells #[.int .i64 (seq + 1), .bool true, .slice A' tn c'] 160) := ⟨_, rfl⟩
    obtain ⟨g6, hg6⟩ : ∃ g6, g6 = w2.heap.size := ⟨_, rfl⟩
    rw [<- hw3, <- hg6]
    have HB23 : Hid (Below w2.heap.size w2 w3) := Lib.hid (by rw [hw3]; exact (Below.refl _ _).alloc (Nat.le_refl _) _)
    have HH3 : Hid (aG w3 g6 160 #[.int .i64 (seq + 1), .bool true, .slice A' tn c']) := Lib.hid (by rw [hw3, hg6]; exact aG.new w2 _ _)
    have HG6 : Hid (w.heap.size <= g6) := Lib.hid (by rw [hg6]; exact HB2.out.size)
    have HB3 : Hid (Below w.heap.size w w3) := Lib.hid (HB2.out.trans (HB23.out.mono HB2.out.size))
    have HCELLS : Hid (∀ wx, Below w3.heap.size w3 wx -> wx.cell? ⟨g6, 0, none⟩ = some (.int .i64 (seq + 1)) /\ wx.cell? ⟨g6, 1, none⟩ = some (.bool true) /\ wx.cell? ⟨g6, 2, none⟩ = some (.slice A' tn c')) := Lib.hid (fun wx hx => by
     have hh := HH3.out.below hx HH3.out.lt
     exact ⟨hh.cell 0, hh.cell 1, hh.cell 2⟩)
    have HR1' := Lib.hid (dR HR1.out HB23.out)
    have HR2' := Lib.hid (dR HR2.out HB23.out)
    have HR3' := Lib.hid (dR HR3.out HB23.out)
    obtain ⟨c0, c1, c2⟩ := HCELLS.out w3 (Below.refl _ _)
    clear hw3 hg6 HR1 HR2 HR3 HB23
    go_wp2_with fail
    refine (HSEC1.out _ A' c' tn HTN.out HR1'.out).mono ?_
    rintro e w4 ⟨b1, rfl, hs1, hsb1, hb4⟩
    have HS1 := Lib.hid hs1
    have HSB1 := Lib.hid hsb1
    have HB4 := Lib.hid hb4
    obtain ⟨c0, c1, c2⟩ := HCELLS.out w4 hb4
    clear hs1 hsb1 hb4
    go_wp2_with fail
    refine (HDONE.out _ A' c' tn HTN.out).mono ?_
    rintro e w5 ⟨rfl, hb5⟩
    have HB5 := Lib.hid (HB4.out.trans (hb5.mono HB4.out.size))
    have HS1' := Lib.hid (HS1.out.below hb5 HS1.out.lt)
    clear hb5 c0 c1 c2
    go_wp2_with fail
    refine (HSEC2.out _).mono ?_
    rintro e w6 ⟨b2, rfl, hs2, hsb2, hb6⟩
    have HS2 := Lib.hid hs2
    have HSB2 : Hid (w.heap.size <= b2) := Lib.hid (Nat.le_trans HB3.out.size (Nat.le_trans HB5.out.size hsb2))
    have HB6 := Lib.hid (HB5.out.trans (hb6.mono HB5.out.size))
    have HS1'' := Lib.hid (HS1'.out.below hb6 HS1'.out.lt)
    clear hs2 hsb2 hb6 HS1 HS1' HB4 HB5
    obtain ⟨wp, hwp⟩ : ∃ wp, wp = w6.alloc (.cells #[.slice B tn cb, .slice (some ⟨b1, 0, none⟩) 1 1, .slice C tn cc, .slice (some ⟨b2, 0, none⟩) 1 1] 71) := ⟨_, rfl⟩
    obtain ⟨bg, hbg⟩ : ∃ bg, bg = w6.heap.size := ⟨_, rfl⟩
    have HB6P : Hid (Below w6.heap.size w6 wp) := Lib.hid (by rw [hwp]; exact (Below.refl _ _).alloc (Nat.le_refl _) _)
    have HB3P : Hid (Below w3.heap.size w3 wp) := Lib.hid (HB6.out.trans (HB6P.out.mono HB6.out.size))
    have HBWP : Hid (Below w.heap.size w wp) := Lib.hid (HB3.out.trans (HB3P.out.mono HB3.out.size))
    have HGRP : Hid (aG wp bg 71 #[.slice B tn cb, .slice (some ⟨b1, 0, none⟩) 1 1, .slice C tn cc, .slice (some ⟨b2, 0, none⟩) 1 1]) := Lib.hid (by rw [hwp, hbg]; exact aG.new w6 _ _)
    have HBGW : Hid (w.heap.size <= bg) := Lib.hid (by rw [hbg]; exact Nat.le_trans HB3.out.size HB6.out.size)
    have HSB1' : Hid (w.heap.size <= b1) := Lib.hid (Nat.le_trans HB3.out.size HSB1.out)
    have HPUT : Hid (Calls Tryz.prog 147 #[.pointer (some ⟨gw, 0, none⟩), .slice (some ⟨bg, 0, none⟩) 4 4] wp fun e w' => e = .returned (.int .i64 E2) /\ dC O gd S2 wp w') := Lib.hid (by
     obtain ⟨n1, n2, n3⟩ := HBND.out
     have hc1 : (cR l 0 T).length = tn := by rw [oQ, HTN.out]
     have hc2 : (eP l T).length = tn := by rw [sE, HTN.out]
     have htn := HLEN.out
     rw [<- HTN.out] at htn
     have := Tf (bg := bg) (m := 4) (c := 4) [⟨B, cb, cR l 0 T⟩, ⟨some ⟨b1, 0, none⟩, 1, [(0, X1)]⟩, ⟨C, cc, eP l T⟩, ⟨some ⟨b2, 0, none⟩, 1, [(0, X2)]⟩] (HW.out.below HBWP.out HW.out.lt) (HD.out.below HBWP.out) HOK.out HGW.out rfl (fun j x hx => by
      match j, hx with
      | 0, hx =>
        injection hx with hx
        subst hx
        refine ⟨?_, yS (dR HR2'.out HB3P.out) HOL.out, by show (cR l 0 T).length <= _; omega⟩
        unfold WI.val
        simp only
        rw [hc1]
        exact HGRP.out.cell 0
      | 1, hx =>
        injection hx with hx
        subst hx
        exact ⟨HGRP.out.cell 1, Gm (HS1''.out.below HB6P.out HS1''.out.lt) HOL.out HSB1'.out, by show 1 <= _; omega⟩
      | 2, hx =>
        injection hx with hx
        subst hx
        refine ⟨?_, yS (dR HR3'.out HB3P.out) HOL.out, by show (eP l T).length <= _; omega⟩
        unfold WI.val
        simp only
        rw [hc2]
        exact HGRP.out.cell 2
      | 3, hx =>
        injection hx with hx
        subst hx
        exact ⟨HGRP.out.cell 3, Gm (HS2.out.below HB6P.out HS2.out.lt) HOL.out HSB2.out, by show 1 <= _; omega⟩) HGRP.out.lt (fun hm => by have := HOL.out _ hm; have := HBGW.out; omega) (by omega) n1 n2 n3
     simp only [List.map_cons, List.map_nil] at this
     rw [<- HGE.out, <- HE2.out, <- HS2E.out] at this
     exact this)
    have HCELLP : Hid (∀ w', aR O wp w' -> aG w' gw 162 (eS gd seq true k) /\ aG w' g6 160 #[.int .i64 (seq + 1), .bool true, .slice A' tn c']) := Lib.hid (fun w' hk => by
     have q1 := HW.out.below HBWP.out HW.out.lt
     have q2 := HH3.out.below HB3P.out HH3.out.lt
     exact ⟨(hk.block gw q1.lt HGW.out).trans q1, (hk.block g6 q2.lt (fun hm => by have := HOL.out _ hm; have := HG6.out; omega)).trans q2⟩)
    have HFIN : Hid (∀ w' wz (R : CR), R.S = S2 -> dC O gd S2 wp w' -> Below w'.heap.size w' wz -> ∀ we, (∀ b, b ≠ gw -> we.heap[b]? = wz.heap[b]?) -> aR [gw] wz we -> aG we gw 162 (eS gd R.seq R.up R.k) -> Kh O gw gd R w we) := Lib.hid (fun w' wz R hR hT hb we hse hkp hbk => by
     obtain ⟨O', d1, d2, d3⟩ := hT
     have d1' := d1.below hb
     have hO' : ∀ b ∈ O', b ∈ O \/ w.heap.size <= b := fun b hb' => by
      rcases d2 b hb' with h | h
      ·exact .inl h
      ·exact .inr (Nat.le_trans HBWP.out.size h)
     refine ⟨O', ?_, hO', ?_, hbk⟩
     ·rw [hR]
      refine d1'.kept (fun b hb' => hse b (fun e => ?_))
      subst e
      rcases hO' b hb' with h | h
      ·exact HGW.out h
      ·have := HW.out.lt; omega
     ·have k1 : aR O w w' := (aR.of_below HBWP.out).trans d3 (fun b hb => .inl hb)
      exact ((k1.below_in hb).mono (O' := gw :: O) (fun b hb => .inl (List.mem_cons_of_mem _ hb))).trans hkp (fun b hb => .inl (by rw [List.mem_singleton.1 hb]; exact List.mem_cons_self)))
    clear HS1'' HS2 HSB1 HSB1' HSB2 HR1' HR2' HR3' HGRP HGE HB6 HB6P HBND HOK
    go_upto_region 13 with fail
    go_wp2_with fail
    rw [<- hwp, <- hbg]
    clear hwp hbg
    refine HPUT.out.mono ?_
    rintro e w7 ⟨rfl, hT7⟩
    have HT7 := Lib.hid hT7
    obtain ⟨hbw, hbh⟩ : aG w7 gw 162 (eS gd seq true k) /\ aG w7 g6 160 #[.int .i64 (seq + 1), .bool true, .slice A' tn c'] := by
     obtain ⟨O', d1, d2, d3⟩ := hT7
     exact HCELLP.out w7 d3
    have HBW7 := Lib.hid hbw
    clear hT7 HPUT
    by_cases hE : E2 = 0
    ·have HRE : Hid (RR = CR.mk S2 (seq + 1) true (k + 1) 0) := Lib.hid (HRR.out.trans (if_pos hE))
     subst hE
     have h0 := hbh.cell 0
     have h1 := hbh.cell 1
     have h2 := hbh.cell 2
     simp at h0 h1 h2
     clear hbw hbh
     go_wp2_with fail
     refine (HDONE.out _ A' c' tn HTN.out).mono ?_
     rintro e w8 ⟨rfl, hb8⟩
     have HB8 := Lib.hid hb8
     have hbw8 := HBW7.out.below hb8 HBW7.out.lt
     have HBW8 := Lib.hid hbw8
     have z1 := hbw8.cell 1
     have z2 := hbw8.cell 2
     have z3 := hbw8.cell 3
     have y1 := hbw8.frozen 1
     have y2 := hbw8.frozen 2
     have y3 := hbw8.frozen 3
     simp [eS] at z1 z2 z3
     clear hb8 hbw8 h0 h1 h2
     go_upto_region 18 with fail
     obtain ⟨w9, hw9⟩ : ∃ w9, w9 = ((w8.setCell ⟨gw, 1, none⟩ (.int .i64 (seq + 1))).setCell ⟨gw, 2, none⟩ (.bool false)).setCell ⟨gw, 3, none⟩ (.slice none 0 0) := ⟨_, rfl⟩
     rw [<- hw9]
     have hbw9 := ((HBW8.out.put 1 (.int .i64 (seq + 1))).put 2 (.bool false)).put 3 (.slice none 0 0)
     rw [<- hw9] at hbw9
     have HBW9 : Hid (aG w9 gw 162 (eS gd (seq + 1) true k)) := Lib.hid hbw9
     have HSE9 : Hid (∀ b, b ≠ gw -> w9.heap[b]? = w8.heap[b]?) := Lib.hid (fun b hb => by rw [hw9]; exact (Below.heap_setCell _ _ _ _ (fun e => hb e)).trans ((Below.heap_setCell _ _ _ _ (fun e => hb e)).trans (Below.heap_setCell _ _ _ _ (fun e => hb e))))
     have HKP9 : Hid (aR [gw] w8 w9) := Lib.hid (by rw [hw9]; exact ((((aR.refl _ _).put (.inl (List.mem_singleton.2 rfl)) _ _).put (.inl (List.mem_singleton.2 rfl)) _ _).put (.inl (List.mem_singleton.2 rfl)) _ _))
     have x5 := HBW9.out.cell 5
     have f5 := HBW9.out.frozen 5
     simp [eS] at x5
     obtain ⟨k0, k1⟩ := HK.out
     clear hw9 hbw9 z1 z2 z3 y1 y2 y3
     go_wp2_with fail
     go_ret
     rw [HRE.out]
     refine ⟨rfl, HFIN.out w7 w8 _ rfl HT7.out HB8.out _ (fun b hb => (Below.heap_setCell _ _ _ _ (fun e => hb e)).trans (HSE9.out b hb)) (HKP9.out.put (.inl (List.mem_singleton.2 rfl)) _ _) ?_⟩
     exact HBW9.out.put 5 (.int .i64 (k + 1))
    ·have HRE : Hid (RR = CR.mk S2 seq false k E2) := Lib.hid (HRR.out.trans (if_neg hE))
     have hb : (E2 != 0) = true := bne_iff_ne.2 hE
     have z4 := hbw.cell 4
     have y4 := hbw.frozen 4
     simp [eS] at z4
     clear hbw hbh
     go_wp2_with fail
     go_ret
     rw [HRE.out]
     refine ⟨rfl, HFIN.out w7 w7 _ rfl HT7.out (Below.refl _ _) _ (fun b hb => Below.heap_setCell _ _ _ _ (fun e => hb e)) ((aR.refl _ _).put (.inl (List.mem_singleton.2 rfl)) _ _) ?_⟩
     exact HBW7.out.put 4 (.bool false)
 ·have R : bV S seq k l = ⟨S, seq, true, k, E⟩ := by unfold bV; rw [if_pos (by rw [<- hE]; exact he), <- hE]
  rw [R]
  have hb : (E != 0) = true := bne_iff_ne.2 he
  clear R hE SAME h hd hok hgw h1 h2 hq hk hm hl hlb hwb hdb hm2
  go_enter Tryz.func98, Tryz.ntmps98
  go_wp2_with fail
  refine HREF.out.mono ?_
  rintro e w1 ⟨rfl, hb1⟩
  go_wp2_with fail
  go_ret
  exact ⟨rfl, HSAME.out _ hb1 _⟩
def lG (s : List ByteArray) (g : List eA) : List ByteArray := g.foldl (fun s x => s.set x.1.toNat x.2) s
theorem jI (g : List eA) : ∀ s, (lG s g).length = s.length := by
 induction g with
 | nil => intro s; rfl
 | cons x r ih => intro s; show (lG (s.set x.1.toNat x.2) r).length = _; rw [ih]; simp
theorem kE (s : List ByteArray) (x : eA) (r : List eA) : lG s (x :: r) = lG (s.set x.1.toNat x.2) r := rfl
theorem pE (g : List eA) {i : Nat} : ∀ s, (∀ x ∈ g, x.1.toNat ≠ i) -> (lG s g)[i]? = s[i]? := by
 induction g with
 | nil => intro s _; rfl
 | cons x r ih =>
   intro s h
   rw [kE, ih _ (fun y hy => h y (by simp [hy])), List.getElem?_set_ne (h x (by simp))]
theorem Ke (g : List eA) (B : Nat) : ∀ s, (∀ x ∈ g, x.2.size <= B) -> (∀ x ∈ s, x.size <= B) -> ∀ x ∈ lG s g, x.size <= B := by
 induction g with
 | nil => intro s _ h; exact h
 | cons x r ih =>
   intro s h1 h2
   rw [kE]
   refine ih _ (fun y hy => h1 y (by simp [hy])) (fun y hy => ?_)
   rcases List.mem_or_eq_of_mem_set hy with h | h
   ·exact h2 y h
   ·rw [h]; exact h1 x (by simp)
def lH (s0 s : List ByteArray) (d : List (Nat × ByteArray)) (n : Nat) : DS := ⟨s, s0, d, true, n, false, 0, []⟩
def mF (s : List ByteArray) (n : Nat) : DS := lH s s [] n
theorem Xt (s : List ByteArray) (n : Nat) : (mF s n).Ok := ⟨rfl, (by intro w hw; cases hw)⟩
def Zv (N : Nat) (g : List eA) : Prop := ∀ x ∈ g, 0 <= x.1 /\ x.1 < (N : Int) /\ x.2.size = 256
theorem vH (s0 : List ByteArray) (g : List eA) : ∀ s d n, Zv s.length g -> (lH s0 s d n).errL g = 0 /\ ∃ d', (lH s0 s d n).writeL g = lH s0 (lG s g) d' (n + g.length) := by
 induction g with
 | nil => intro s d n _; exact ⟨rfl, d, rfl⟩
 | cons x r ih =>
   intro s d n h
   obtain ⟨h1, h2, h3⟩ := h x (by simp)
   have e1 : (lH s0 s d n).err1 x.1 x.2 = 0 := by
    unfold DS.err1
    rw [if_pos ⟨h1, by exact h2⟩, if_pos h3]
    rfl
   have e2 : (lH s0 s d n).write1 x.1 x.2 = lH s0 (s.set x.1.toNat x.2) (d ++ [(x.1.toNat, x.2)]) (n + 1) := by
    unfold DS.write1
    rw [if_pos ⟨h1, h2, h3⟩]
    rfl
   obtain ⟨i1, d', i2⟩ := ih (s.set x.1.toNat x.2) (d ++ [(x.1.toNat, x.2)]) (n + 1) (fun y hy => by rw [List.length_set]; exact h y (by simp [hy]))
   constructor
   ·rw [DS.errL, if_pos e1, e2]
    exact i1
   ·refine ⟨d', ?_⟩
    rw [DS.writeL, if_pos e1, e2, i2, kE, List.length_cons, show n + 1 + r.length = n + (r.length + 1) by omega]
theorem yR (s : List ByteArray) (n : Nat) (g : List eA) (h : Zv s.length g) : (mF s n).errW g = 0 /\ ((mF s n).write g).errF = 0 /\ ((mF s n).write g).flush = mF (lG s g) (n + g.length) := by
 obtain ⟨h1, d, h2⟩ := vH s g s [] n h
 have w1 : (mF s n).errW g = 0 := by
  unfold DS.errW
  rw [if_pos (show (mF s n).on = true from rfl)]
  exact h1
 have w2 : (mF s n).write g = lH s (lG s g) d (n + g.length) := by
  unfold DS.write
  rw [if_pos (show (mF s n).on = true from rfl)]
  exact h2
 rw [w2]
 exact ⟨w1, rfl, rfl⟩
theorem Um (G : List (List eA)) : ∀ s n, (∀ g ∈ G, Zv s.length g) -> lD (mF s n) G = 0 /\ jV (mF s n) G = mF (G.foldl lG s) (n + Iv G) := by
 induction G with
 | nil => intro s n _; exact ⟨rfl, rfl⟩
 | cons g r ih =>
   intro s n h
   obtain ⟨h1, h2, h3⟩ := yR s n g (h g (by simp))
   obtain ⟨i1, i2⟩ := ih (lG s g) (n + g.length) (fun g' hg' => by rw [jI]; exact h g' (by simp [hg']))
   constructor
   ·rw [lD, if_pos h1, if_pos h2, h3]
    exact i1
   ·rw [jV, if_pos h1, if_pos h2, h3, i2]
    have e : Iv (g :: r) = g.length + Iv r := rfl
    rw [e, show n + g.length + Iv r = n + (g.length + Iv r) by omega]
    rfl
theorem Pn (l : List eA) (ts : List Int) {t : Int} : ∀ s : List ByteArray, t ∈ ts -> 0 <= t -> (111 + t).toNat < s.length -> (∀ u ∈ ts, 0 <= u) -> (lG s (eP l ts))[(111 + t).toNat]? = some (gR l t) := by
 induction ts with
 | nil => intro s h; cases h
 | cons u r ih =>
   intro s h h0 h1 h2
   have e : eP l (u :: r) = (111 + u, gR l u) :: eP l r := rfl
   rw [e, kE]
   by_cases hr : t ∈ r
   ·exact ih _ hr h0 (by simpa using h1) (fun v hv => h2 v (by simp [hv]))
   ·have htu : t = u := by
     rcases List.mem_cons.1 h with h | h
     ·exact h
     ·exact absurd h hr
    subst htu
    rw [pE (eP l r) _ (fun x hx => ?_), List.getElem?_set_self h1]
    unfold eP at hx
    obtain ⟨v, hv, rfl⟩ := List.mem_map.1 hx
    have := h2 v (by simp [hv])
    simp only
    intro e
    have : v = t := by omega
    exact hr (this ▸ hv)
theorem Bv (l : List eA) (ts : List Int) : ∀ k, ∀ x ∈ cR l k ts, ∃ (j : Nat) (t : Int), x = (1 + (j : Int), gR l t) /\ k <= j /\ j < k + ts.length /\ t ∈ ts := by
 induction ts with
 | nil => intro k x hx; cases hx
 | cons t r ih =>
   intro k x hx
   rcases List.mem_cons.1 hx with rfl | hx
   ·exact ⟨k, t, rfl, Nat.le_refl _, by simp, by simp⟩
   ·obtain ⟨j, u, e, h1, h2, h3⟩ := ih (k + 1) x hx
    exact ⟨j, u, e, by omega, by simp only [List.length_cons]; omega, by simp [h3]⟩
theorem Ma (l : List eA) (ts : List Int) {x : eA} (h : x ∈ eP l ts) : ∃ t ∈ ts, x = (111 + t, gR l t) := by
 unfold eP at h
 obtain ⟨t, ht, rfl⟩ := List.mem_map.1 h
 exact ⟨t, ht, rfl⟩
theorem Kg {l : List eA} {t : Int} (h : t ∈ l.map Prod.fst) (hs : ∀ x ∈ l, x.2.size = 256) : (gR l t).size = 256 := by
 obtain ⟨i, x, _, _, hx, _, e⟩ := Bk l h
 rw [<- e]
 exact hs x (List.mem_of_getElem? hx)
def Yr (seq : Int) : ByteArray := bs (HD.mk seq false []).text
def mV (s : List ByteArray) (seq : Int) (l : List eA) (T : List Int) : List ByteArray := (dF seq l T).foldl lG s
structure dI (N : Nat) (seq : Int) (l : List eA) (T : List Int) : Prop where
 eq : T = bO (l.map Prod.fst)
 dim : 111 <= N /\ N <= 2000
 few : T.length <= 110
 pos : 0 < l.length
 ok : lE ((N : Int) - 111) l = 0
 seqb : 0 <= seq /\ seq < 1099511627776
namespace dI
variable {N : Nat} {seq : Int} {l : List eA} {T : List Int}
theorem mem (h : dI N seq l T) (t : Int) : t ∈ T ↔ t ∈ l.map Prod.fst := by rw [h.eq]; exact (jX _).2 t
theorem range (h : dI N seq l T) : ∀ t ∈ T, 0 <= t /\ 111 + t < (N : Int) := fun t ht => by
 obtain ⟨x, hx, rfl⟩ := List.mem_map.1 ((h.mem t).1 ht)
 have := pV h.ok x hx
 omega
theorem size (h : dI N seq l T) : ∀ t ∈ T, (gR l t).size = 256 := fun t ht => Kg ((h.mem t).1 ht) (fun x hx => (pV h.ok x hx).2.2)
theorem valid (h : dI N seq l T) : (HD.mk (seq + 1) true T).validB = true := by
 have hN := h.dim
 have := yT (l := l.map Prod.fst) h.seqb.1 h.seqb.2 (by rw [List.length_map]; exact h.pos) (fun x hx => by
  obtain ⟨y, hy, rfl⟩ := List.mem_map.1 hx
  have := pV h.ok y hy
  omega) (by rw [<- h.eq]; exact h.few)
 rw [<- h.eq] at this
 exact this
theorem fits (h : dI N seq l T) : ∀ g ∈ dF seq l T, Zv N g := by
 intro g hg x hx
 have hN := h.dim
 unfold dF at hg
 simp only [List.mem_cons, List.not_mem_nil, or_false] at hg
 rcases hg with rfl | rfl | rfl | rfl
 ·obtain ⟨j, t, rfl, h1, h2, h3⟩ := Bv l T 0 x hx
  have := h.few
  exact ⟨by simp only; omega, by simp only; omega, h.size t h3⟩
 ·rw [List.mem_singleton.1 hx]
  exact ⟨by simp, by simp only; omega, by show (bs _).size = 256; rw [dO, (HD.valid_of h.valid).text_len]⟩
 ·obtain ⟨t, ht, rfl⟩ := Ma l T hx
  have := h.range t ht
  exact ⟨by simp only; omega, by simp only; omega, h.size t ht⟩
 ·rw [List.mem_singleton.1 hx]
  exact ⟨by simp, by simp only; omega, by show (bs _).size = 256; rw [dO, (HD.valid_of (yU (by have := h.seqb; omega) (by have := h.seqb; omega))).text_len]⟩
theorem done_len (s : List ByteArray) (seq : Int) (l : List eA) (T : List Int) : (mV s seq l T).length = s.length := by
 unfold mV dF
 simp only [List.foldl_cons, List.foldl_nil, jI]
theorem done_head (h : dI N seq l T) (s : List ByteArray) (hs : s.length = N) : (mV s seq l T)[0]? = some (Yr (seq + 1)) := by
 have hN := h.dim
 unfold mV dF
 simp only [List.foldl_cons, List.foldl_nil]
 rw [kE]
 show (lG _ [])[0]? = _
 show ((lG _ _).set 0 _)[0]? = _
 rw [List.getElem?_set_self (by simp only [jI]; omega)]
 rfl
theorem done_at (h : dI N seq l T) (s : List ByteArray) (hs : s.length = N) {t : Int} (ht : 0 <= t) (htN : 111 + t < (N : Int)) : (mV s seq l T)[(111 + t).toNat]? = if t ∈ T then some (gR l t) else s[(111 + t).toNat]? := by
 have hN := h.dim
 unfold mV dF
 simp only [List.foldl_cons, List.foldl_nil]
 rw [pE [(0, _)] _ (fun x hx => by rw [List.mem_singleton.1 hx]; simp only; omega)]
 by_cases hm : t ∈ T
 ·rw [if_pos hm, Pn l T _ hm ht (by simp only [jI]; omega) (fun u hu => (h.range u hu).1)]
 ·rw [if_neg hm, pE (eP l T) _ (fun x hx => ?_), pE [(0, _)] _ (fun x hx => by rw [List.mem_singleton.1 hx]; simp only; omega), pE (cR l 0 T) _ (fun x hx => ?_)]
  ·obtain ⟨j, u, rfl, h1, h2, h3⟩ := Bv l T 0 x hx
   have := h.few
   simp only
   omega
  ·obtain ⟨u, hu, rfl⟩ := Ma l T hx
   have := h.range u hu
   simp only
   intro e
   have : u = t := by omega
   exact hm (this ▸ hu)
theorem run (h : dI N seq l T) (s : List ByteArray) (hs : s.length = N) (n : Nat) (k : Int) :
  bV (mF s n) seq k l = ⟨mF (mV s seq l T) (n + (2 * T.length + 2)), seq + 1, true, k + 1, 0⟩ := by
 obtain ⟨p1, p2⟩ := Um (dF seq l T) s n (fun g hg => by rw [hs]; exact h.fits g hg)
 have hl : (mF s n).now.length = N := hs
 unfold bV
 rw [hl, if_neg (fun hh => hh h.ok), if_neg (by have := h.pos; omega), <- h.eq, if_neg (by have := h.few; omega), if_pos p1, p2]
 have e : Iv (dF seq l T) = 2 * T.length + 2 := by
  unfold dF Iv
  simp only [List.foldr_cons, List.foldr_nil, oQ, sE, List.length_cons, List.length_nil]
  omega
 rw [e]
 rfl
end dI
end Go.Proofs.YtingkbeifohihaaGreatDoor
