/-
  Package head's Read of what Lay lays. No statement is proved here.
-/
import Derived.Test.YtiagofgcinlnhaaGreatDoorHeadParse
import Derived.Shelf.SlGeneric
import Derived.Shelf.Strings.Trim
import Derived.Ground.NamesProg
import Derived.Ground.Names2Prog
import Derived.Shelf.Slices.CompactI
import Derived.Shelf.Slices.Cells
import Derived.Ground.SlgmProg
import Derived.Shelf.SortM.Plain
import Derived.Shelf.SortM.SortNone
import Derived.Test.YtiagofgcinlnhaaGreatDoorProg
import Derived.Test.YtiagofgcinlnhaaGreatDoorCrcOf
import Derived.Test.YtiagofgcinlnhaaGreatDoorRegionApp
import Derived.Deep.DeepCutAuto
import Derived.Deep.RegionWith
namespace Go.Proofs.YtiagofgcinlnhaaGreatDoor
open Go.RowKit
def numsL (s : Rd) : Nat → List Int × Rd
  | 0 => ([], s)
  | j + 1 => ((numsL s j).1 ++ [((numsL s j).2.num 2).1], ((numsL s j).2.num 2).2)
theorem numsL_length (s : Rd) : ∀ j, (numsL s j).1.length = j
  | 0 => rfl
  | j + 1 => by simp [numsL, numsL_length s j]
theorem numsL_size (s : Rd) : ∀ j, (numsL s j).2.b.size ≤ s.b.size
  | 0 => Nat.le_refl _
  | j + 1 => Nat.le_trans (Rd.size_num _ 2) (numsL_size s j)
def parsR1 (Y : ByteArray) : Rd := ((Rd.mk Y 0).num 1).2
def parsR2 (Y : ByteArray) : Rd := ((parsR1 Y).num 1).2
def parsR3 (Y : ByteArray) : Rd := ((parsR2 Y).num 8).2
def parsR4 (Y : ByteArray) : Rd := ((parsR3 Y).num 2).2
def parsN (Y : ByteArray) : Nat := (min ((parsR3 Y).num 2).1 110).toNat
def parseHD (Y : ByteArray) : HD := ⟨((parsR2 Y).num 8).1, ((parsR1 Y).num 1).1 != 0, (numsL (parsR4 Y) (parsN Y)).1⟩
set_option maxRecDepth 100000 in
set_option maxHeartbeats 8000000 in
theorem hparse_own (Y : ByteArray) (hYs : Y.size ≤ 1000000) (w : World) :
    Calls Tryz.prog 130 #[.string Y] w fun e w' => ∃ A c, e = .returned ((parseHD Y).val A c) ∧ w'.ownsRow w.heap.size 3 1 (.slice A (parseHD Y).ts.length c) (parseHD Y).ts.length ((parseHD Y).ts.map (Value.int .i64)) ∧ (parseHD Y).ts.length ≤ 110 ∧ Below w.heap.size w w' := by
  have Z1 : (parsR1 Y).b.size ≤ Y.size := (Rd.mk Y 0).size_num 1
  have Z2 : (parsR2 Y).b.size ≤ Y.size := Nat.le_trans (Rd.size_num _ 1) Z1
  have Z3 : (parsR3 Y).b.size ≤ Y.size := Nat.le_trans (Rd.size_num _ 8) Z2
  have Z4 : (parsR4 Y).b.size ≤ Y.size := Nat.le_trans (Rd.size_num _ 2) Z3
  have HYS : Hid (Y.size ≤ 140737488351232) := Lib.hid (by omega)
  obtain ⟨k0, hk0⟩ : ∃ k, k = ((Rd.mk Y 0).num 1).1 := ⟨_, rfl⟩
  obtain ⟨fi, hfi⟩ : ∃ k, k = ((parsR1 Y).num 1).1 := ⟨_, rfl⟩
  obtain ⟨si, hsi⟩ : ∃ k, k = ((parsR2 Y).num 8).1 := ⟨_, rfl⟩
  obtain ⟨k4, hk4⟩ : ∃ k, k = ((parsR3 Y).num 2).1 := ⟨_, rfl⟩
  obtain ⟨R1, hR1⟩ : ∃ R, R = parsR1 Y := ⟨_, rfl⟩
  obtain ⟨R2, hR2⟩ : ∃ R, R = parsR2 Y := ⟨_, rfl⟩
  obtain ⟨R3, hR3⟩ : ∃ R, R = parsR3 Y := ⟨_, rfl⟩
  obtain ⟨R4, hR4⟩ : ∃ R, R = parsR4 Y := ⟨_, rfl⟩
  have HB1 : Hid (∀ (W : World) (g : Nat), InAt W g ⟨Y, 0⟩ → Calls Tryz.prog 133 #[.pointer (some ⟨g, 0, none⟩)] W fun e w' => e = .returned (.int .i64 k0) ∧ InAt w' g R1 ∧ W.grownBy w' (some g)) := Lib.hid (fun W g hi => by have := in_byte g _ W hi (by show Y.size ≤ _; omega); rw [← hk0, show ((Rd.mk Y 0).num 1).2 = R1 from hR1.symm] at this; exact this)
  have HB2 : Hid (∀ (W : World) (g : Nat), InAt W g R1 → Calls Tryz.prog 133 #[.pointer (some ⟨g, 0, none⟩)] W fun e w' => e = .returned (.int .i64 fi) ∧ InAt w' g R2 ∧ W.grownBy w' (some g)) := Lib.hid (fun W g hi => by have := in_byte g _ W hi (by rw [hR1]; omega); rw [hR1, ← hfi, show ((parsR1 Y).num 1).2 = R2 from hR2.symm] at this; exact this)
  have HB3 : Hid (∀ (W : World) (g : Nat), InAt W g R2 → Calls Tryz.prog 160 #[.pointer (some ⟨g, 0, none⟩)] W fun e w' => e = .returned (.int .i64 si) ∧ InAt w' g R3 ∧ W.grownBy w' (some g)) := Lib.hid (fun W g hi => by have := in_long g _ W hi (by rw [hR2]; omega); rw [hR2, ← hsi, show ((parsR2 Y).num 8).2 = R3 from hR3.symm] at this; exact this)
  have HB4 : Hid (∀ (W : World) (g : Nat), InAt W g R3 → Calls Tryz.prog 134 #[.pointer (some ⟨g, 0, none⟩)] W fun e w' => e = .returned (.int .i64 k4) ∧ InAt w' g R4 ∧ W.grownBy w' (some g)) := Lib.hid (fun W g hi => by have := in_half g _ W hi (by rw [hR3]; omega); rw [hR3, ← hk4, show ((parsR3 Y).num 2).2 = R4 from hR4.symm] at this; exact this)
  have hk0 : 0 ≤ k4 := by rw [hk4]; exact (Rd.num_range _ _).1
  obtain ⟨n, hn⟩ : ∃ n, n = parsN Y := ⟨_, rfl⟩
  have hmin : min k4 110 = (n : Int) := by rw [hn]; unfold parsN; rw [← hk4]; omega
  have hn110 : (n : Int) ≤ 110 := by omega
  obtain ⟨T, hT⟩ : ∃ T, T = numsL R4 := ⟨_, rfl⟩
  have HTL : Hid (∀ j, (T j).1.length = j) := Lib.hid (fun j => by rw [hT]; exact numsL_length _ j)
  have HTS : Hid (∀ j, (T j).2.b.size ≤ 1000000) := Lib.hid (fun j => by rw [hT]; exact Nat.le_trans (numsL_size R4 j) (by rw [hR4]; omega))
  have HTN : Hid (∀ j, T (j + 1) = ((T j).1 ++ [((T j).2.num 2).1], ((T j).2.num 2).2)) := Lib.hid (fun j => by rw [hT]; rfl)
  have HT0 : Hid (T 0 = ([], R4)) := Lib.hid (by rw [hT]; rfl)
  obtain ⟨fb, hfb⟩ : ∃ fb, fb = (fi != 0) := ⟨_, rfl⟩
  have HP : Hid (parseHD Y = ⟨si, fb, (T n).1⟩) := Lib.hid (by rw [hT, hn, hR4, hsi, hfb, hfi]; rfl)
  have hneq : (fi != 0) = fb := hfb.symm
  rw [HP.out]
  simp only
  rw [HTL.out n]
  clear hYs Z1 Z2 Z3 Z4 hk0 hfi hsi hk4 hR1 hR2 hR3 hR4 hn hT hfb
  go_enter Tryz.func130, Tryz.ntmps130
  go_wp2_with fail
  refine (on_any Y _ HYS.out).mono ?_
  rintro e w1 ⟨g, rfl, hgl, hi1, hb1⟩
  have HR0 : Hid (Blk w1 w.heap.size 99 #[.int .i64 0, .bool false, .slice none 0 0]) := Lib.hid ((Blk.new w _ _).below hb1 (by simp))
  have HBW : Hid (Below w.heap.size w w1) := Lib.hid (((Below.refl _ _).alloc (Nat.le_refl _) _).trans (hb1.mono (by simp)))
  have HG : Hid (w.heap.size < g) := Lib.hid (by simp at hgl; omega)
  have HI1 := Lib.hid hi1
  clear hgl hi1 hb1
  go_wp2_with fail
  refine (HB1.out _ _ HI1.out).mono ?_
  rintro e w2 ⟨rfl, hi2, hg2⟩
  have HI2 := Lib.hid hi2
  have HG2 := Lib.hid hg2
  clear hi2 hg2
  go_wp2_with fail
  refine (HB2.out _ _ HI2.out).mono ?_
  rintro e w3 ⟨rfl, hi3, hg3⟩
  have HI3 := Lib.hid hi3
  have HG3 := Lib.hid hg3
  clear hi3 hg3
  go_wp2_with fail
  refine (HB3.out _ _ HI3.out).mono ?_
  rintro e w4 ⟨rfl, hi4, hg4⟩
  have HI4 := Lib.hid hi4
  have HG4 := Lib.hid hg4
  clear hi4 hg4
  go_wp2_with fail
  have hi5 : InAt (w4.alloc (.cells #[.int .i64 si, .bool fb, .slice none 0 0] 99)) g R3 := HI4.out.far (Below.heap_alloc _ _ _ HI4.out.lt)
  refine (HB4.out _ _ hi5).mono ?_
  rintro e w6 ⟨rfl, hi6, hg6⟩
  have HG4' : Hid (g < w4.heap.size) := Lib.hid HI4.out.lt
  have HI6 := Lib.hid hi6
  have hgn : some g ≠ some w4.heap.size := fun e => by injection e with e; have := HG4'.out; omega
  have HH6 : Hid (Blk w6 w4.heap.size 99 #[.int .i64 si, .bool fb, .slice none 0 0]) := Lib.hid (blk_other (Blk.new w4 _ _) hg6 hgn)
  have HR6 : Hid (Blk w6 w.heap.size 99 #[.int .i64 0, .bool false, .slice none 0 0]) := Lib.hid (by
    have hn : some g ≠ some w.heap.size := fun e => by injection e with e; have := HG.out; omega
    have b4 := blk_other (blk_other (blk_other HR0.out HG2.out hn) HG3.out hn) HG4.out hn
    exact blk_other (Blk.below b4 ((Below.refl _ _).alloc (Nat.le_refl _) _) b4.lt) hg6 hn)
  have HB6 : Hid (Below w.heap.size w w6) := Lib.hid (by
    have hw : w.heap.size ≤ g := by have := HG.out; omega
    have k4 := below_by_new (below_by_new (below_by_new HBW.out HG2.out hw) HG3.out hw) HG4.out hw
    exact below_by_new (k4.alloc k4.size _) hg6 hw)
  have HW4 : Hid (w.heap.size < w4.heap.size) := Lib.hid (by
    have := HG.out
    have := HG4'.out
    omega)
  obtain ⟨h4, hh4⟩ : ∃ h4, h4 = w4.heap.size := ⟨_, rfl⟩
  rw [← hh4] at HH6 HW4 hgn
  have HGN := Lib.hid hgn
  rw [← hh4]
  clear hi5 hi6 hg6 HI1 HI2 HI3 HI4 HG2 HG3 HG4 HR0 HBW HB1 HB2 HB3 HB4 HG4' hh4 hgn
  go_wp2_with fail
  go_loopw [18] (fun i wr => ∃ (j : Nat) (v : Value), j ≤ n ∧ i = .int .i64 j ∧ InAt wr g (T j).2 ∧ Blk wr h4 99 #[.int .i64 si, .bool fb, v] ∧ wr.ownsRow w.heap.size 3 1 v j ((T j).1.map (Value.int .i64)) ∧ v.ownBlock ≠ some g ∧ v.ownBlock ≠ some h4 ∧ v.ownBlock ≠ some w.heap.size ∧ Blk wr w.heap.size 99 #[.int .i64 0, .bool false, .slice none 0 0] ∧ Below w.heap.size w wr) (fun i _ => n - (intOf i).toNat)
  case atStart => exact ⟨0, .slice none 0 0, Nat.zero_le _, rfl, by rw [HT0.out]; exact HI6.out, HH6.out, by rw [HT0.out]; exact World.ownsRow_nil _ _ _ _, by simp [Value.ownBlock], by simp [Value.ownBlock], by simp [Value.ownBlock], HR6.out, HB6.out⟩
  case round =>
    obtain ⟨j, v, hj, rfl, hi, hh, hrow, hvg, hvh, hvr, hr0, hb⟩ := hrel
    obtain ⟨pv, cv, rfl, -⟩ := row_slice' hrow
    have HI := Lib.hid hi
    have HH := Lib.hid hh
    have HRW := Lib.hid hrow
    have HVG := Lib.hid (And.intro hvg (And.intro hvh hvr))
    have HR0 := Lib.hid hr0
    have HB := Lib.hid hb
    clear hi hh hrow hvg hvh hvr hr0 hb HI6 HH6 HR6 HB6
    by_cases hlt : j < n
    · obtain ⟨x, hx⟩ : ∃ x, x = ((T j).2.num 2).1 := ⟨_, rfl⟩
      have HTK : Hid ((T (j + 1)).1.map (Value.int .i64) = (T j).1.map (Value.int .i64) ++ [.int .i64 x]) := Lib.hid (by rw [HTN.out j, List.map_append, hx]; rfl)
      have HCL : Hid (∀ W, InAt W g (T j).2 → Calls Tryz.prog 134 #[.pointer (some ⟨g, 0, none⟩)] W fun e w' => e = .returned (.int .i64 x) ∧ InAt w' g (T (j + 1)).2 ∧ W.grownBy w' (some g)) := Lib.hid (fun W hi => by have := in_half g _ W hi (Nat.le_trans (HTS.out j) (by omega)); rw [← hx, show ((T j).2.num 2).2 = (T (j + 1)).2 by rw [HTN.out j]] at this; exact this)
      obtain ⟨s1, hs1⟩ : ∃ s : Rd, s = (T j).2 := ⟨_, rfl⟩
      obtain ⟨s2, hs2⟩ : ∃ s : Rd, s = (T (j + 1)).2 := ⟨_, rfl⟩
      rw [← hs1, ← hs2] at HCL
      rw [← hs1] at HI
      have HS2 := Lib.hid hs2
      have hjI : (j : Int) < (n : Int) := by omega
      have hj110 : j ≤ 110 := by omega
      clear hx hs1 hs2
      obtain ⟨old, hold⟩ : ∃ old, old = (T j).1.map (Value.int .i64) := ⟨_, rfl⟩
      rw [← hold] at HRW HTK
      go_upto_region 6 with fail
      obtain ⟨i0, hi0, hz0, hz1, hz2⟩ := info_parts hints_info
      refine wp_region_phase 20 6 25 2 (PJ w g h4 si fb (.slice pv j cv) j old x s1 s2) (by kernel_rfl) (by kernel_rfl) rfl (by omega) (by kernel_rfl) rfl (by simp) ?h0 ?hops ?hrest
      case h0 => exact ⟨(fun h => by cases h), (fun h => by cases h), (fun h => by cases h), (fun h => by cases h), (fun h => by cases h), (fun h => by cases h), (fun h => by cases h), (fun h => by cases h), HI.out, HH.out, fun _ => row_kept' HRW.out (fun _ _ => rfl), HB.out.drew, HR0.out⟩
      case hops =>
        intro o ho L f y w' hF hLo hJ hw hy
        have HJ := Lib.hid hJ
        clear hJ
        rcases (show o = 0 ∨ o = 1 ∨ o = 2 ∨ o = 3 ∨ o = 4 ∨ o = 5 by omega) with rfl | rfl | rfl | rfl | rfl | rfl
        · have t0 : y.tmps[4]?.getD undef = .pointer (some ⟨h4, 0, none⟩) := by rw [hF.2.2 4 (by omega)]; rfl
          clear hw hy hF
          refine wpOp_value (v := .pointer (some ⟨h4, 2, none⟩)) (w' := w') rfl rfl ?_ ⟨_, rfl, ?_⟩
          · go_simp
          · have k := HJ.out
            exact ⟨fun _ => rfl, k.f1, k.f2, k.f3, k.f4, k.f5, k.c4, k.c5, k.rd, k.hd, k.row, k.below, k.r0⟩
        · have l0 : L 0 = true := hw 0 (of_decide_eq_true (by kernel_rfl))
          have t0 : y.tmps[20]?.getD undef = .pointer (some ⟨h4, 2, none⟩) := (hy 0 (by omega) l0).trans (HJ.out.f0 l0)
          have c2 := HJ.out.hd.cell 2
          simp at c2
          clear hw hy hF
          refine wpOp_value (v := .slice pv j cv) (w' := w') rfl rfl ?_ ⟨_, rfl, ?_⟩
          · go_simp
          · have k := HJ.out
            exact ⟨k.f0, fun _ => rfl, k.f2, k.f3, k.f4, k.f5, k.c4, k.c5, k.rd, k.hd, k.row, k.below, k.r0⟩
        · have t0 : y.tmps[3]?.getD undef = .pointer (some ⟨g, 0, none⟩) := by rw [hF.2.2 3 (by omega)]; rfl
          clear hw hy hF
          refine wpOp_value (v := .pointer (some ⟨g, 0, none⟩)) (w' := w') rfl rfl ?_ ⟨_, rfl, ?_⟩
          · go_simp
          · have k := HJ.out
            exact ⟨k.f0, k.f1, fun _ => rfl, k.f3, k.f4, k.f5, k.c4, k.c5, k.rd, k.hd, k.row, k.below, k.r0⟩
        · have l2 : L 2 = true := hw 2 (of_decide_eq_true (by kernel_rfl))
          have t0 : y.tmps[22]?.getD undef = .pointer (some ⟨g, 0, none⟩) := (hy 2 (by omega) l2).trans (HJ.out.f2 l2)
          have l4 : L 4 = false := by
            cases hl : L 4 with
            | false => rfl
            | true => rw [HJ.out.c4 hl] at hLo; cases hLo
          have l5 : L 5 = false := by
            cases hl : L 5 with
            | false => rfl
            | true => rw [HJ.out.c5 hl] at l4; cases l4
          have hrd := HJ.out.rd
          rw [hLo, if_neg (by decide)] at hrd
          clear hw hy hF
          refine wpOp_call (f := 134) (args := #[.pointer (some ⟨g, 0, none⟩)]) rfl rfl (by go_simp) ((HCL.out w' hrd).mono ?_)
          rintro e w'' ⟨rfl, hi2, hg2⟩
          have k := HJ.out
          refine ⟨_, rfl, _, rfl, ?_⟩
          have hgw : w.heap.size ≤ g := by have := HG.out; omega
          exact ⟨k.f0, k.f1, k.f2, fun _ => rfl, (fun h => by rw [show L 4 = true from h] at l4; cases l4), (fun h => by rw [show L 5 = true from h] at l5; cases l5), (fun h => by rw [show L 4 = true from h] at l4; cases l4), (fun h => by rw [show L 5 = true from h] at l5; cases l5), hi2, blk_other k.hd hg2 HGN.out, fun _ => row_other (k.row l5) hg2 (fun q e => by injection e with e; subst e; exact HVG.out.1), below_by_new k.below hg2 hgw, blk_other k.r0 hg2 (fun e => by injection e with e; have := HG.out; omega)⟩
        · have l3 : L 3 = true := hw 3 (of_decide_eq_true (by kernel_rfl))
          have t0 : y.tmps[23]?.getD undef = .int .i64 x := (hy 3 (by omega) l3).trans (HJ.out.f3 l3)
          have l5 : L 5 = false := by
            cases hl : L 5 with
            | false => rfl
            | true => rw [HJ.out.c5 hl] at hLo; cases hLo
          clear hw hy hF
          refine wpOp_value (v := .slice (some ⟨w'.heap.size, 0, none⟩) 1 1) (w' := w'.alloc (.cells #[.int .i64 x] 3)) rfl rfl ?_ ⟨_, rfl, ?_⟩
          · go_simp
          · have k := HJ.out
            have hg1 : w'.grownBy (w'.alloc (.cells #[.int .i64 x] 3)) none := by_alloc (by_refl _ _) _
            have e3 : (if (if 4 = 3 then true else L 3) = true then s2 else s1) = (if L 3 = true then s2 else s1) := rfl
            exact ⟨k.f0, k.f1, k.f2, k.f3, fun _ => ⟨_, rfl, Blk.new _ _ _, by have := k.rd.lt; omega, by have := k.hd.lt; omega, fun e => by have := ((k.row l5).lt _ e).2; omega⟩, (fun h => by rw [show L 5 = true from h] at l5; cases l5), fun _ => l3, (fun h => by rw [show L 5 = true from h] at l5; cases l5), blk_other k.rd hg1 (by simp), blk_other k.hd hg1 (by simp), fun _ => row_other (k.row l5) hg1 (fun q e => by cases e), k.below.alloc k.below.size _, blk_other k.r0 hg1 (by simp)⟩
        · have l4 : L 4 = true := hw 4 (of_decide_eq_true (by kernel_rfl))
          have l1 : L 1 = true := hw 1 (of_decide_eq_true (by kernel_rfl))
          have k := HJ.out
          have l3 := k.c4 l4
          obtain ⟨b, hb4, hbk, hbg, hbh, hbv⟩ := k.f4 l4
          have t1 : y.tmps[21]?.getD undef = .slice pv j cv := (hy 1 (by omega) l1).trans (k.f1 l1)
          have t2 : y.tmps[24]?.getD undef = .slice (some ⟨b, 0, none⟩) 1 1 := (hy 4 (by omega) l4).trans hb4
          obtain ⟨gd, cap, Wf, hrun, hown, hgrow, hor, hlt'⟩ := run_append_lies (P := Tryz.prog) w' 39 39 w.heap.size 3 i0 (.int .i64 0) 1 8 Tryz.underlying39 hi0 hz0 hz1 hz2 rfl (by omega)
            (.slice pv j cv) j old (k.row hLo) ⟨b, 0, none⟩ 1 1 [.int .i64 x] rfl (fun i u hu => by
              match i, hu with
              | 0, hu =>
                injection hu with hu
                subst hu
                rw [Go.WideShapes.add_plain]
                exact hbk.cell 0) (by intro u hu; have := List.mem_singleton.1 hu; subst this; rfl) (by omega) (by unfold maxLen; omega) (by omega) k.below.size _ rfl
          refine wpOp_value (v := .slice (some ⟨gd, 0, none⟩) (j + 1) cap) (w' := Wf) rfl rfl (exec_append rfl (by simpa [Act.eval] using t1) (by simpa [Act.eval] using t2) hrun) ⟨_, rfl, ?_⟩
          have hne : ∀ q, q < w'.heap.size → (Value.slice pv j cv).ownBlock ≠ some q → gd ≠ q := by
            intro q hq hvq e
            subst e
            rcases hor with h1 | h1
            · exact hvq h1
            · omega
          have n1 : gd ≠ g := hne g k.rd.lt HVG.out.1
          have n2 : gd ≠ h4 := hne h4 k.hd.lt HVG.out.2.1
          have n3 : gd ≠ w.heap.size := hne w.heap.size k.r0.lt HVG.out.2.2
          exact ⟨k.f0, k.f1, k.f2, k.f3, fun _ => ⟨b, hb4, blk_other hbk hgrow hbv, hbg, hbh, hbv⟩, fun _ => ⟨gd, cap, rfl, hown, n1, n2, n3⟩, fun _ => l3, fun _ => l4, blk_other k.rd hgrow HVG.out.1, blk_other k.hd hgrow HVG.out.2.1, (fun h => by cases h), k.below.grown hgrow k.below.size (fun q e => ((k.row hLo).lt q e).1), blk_other k.r0 hgrow HVG.out.2.2⟩
      case hrest =>
        intro L f w' hL hJ
        have k := hJ
        obtain ⟨gd, cap, hf5, hown, n1, n2, n3⟩ := k.f5 (hL 5 (by omega))
        have HLL := Lib.hid (hL 3 (by omega))
        have HK := Lib.hid hJ
        have HOWN := Lib.hid hown
        have c2 := k.hd.cell 2
        have f2 := k.hd.frozen 2
        simp at c2
        clear hL hJ k hown
        rw [show List.range' 6 2 = [6, 7] from rfl]
        simp only [putAll, List.range, List.range.loop, List.foldl, Nat.reduceAdd, List.setIfInBounds_toArray, List.set_cons_succ, List.set_cons_zero, hf5]
        clear hf5
        rw [wpOps_cons]
        refine wpOp_value (v := .pointer (some ⟨h4, 2, none⟩)) (w' := w') rfl rfl (by go_simp) ?_
        rw [wpOps_cons]
        refine wpOp_skip (w' := w'.setCell ⟨h4, 2, none⟩ (.slice (some ⟨gd, 0, none⟩) (j + 1) cap)) rfl rfl (by simp only [Act.put, List.setIfInBounds_toArray]; go_simp) ?_
        simp only [wpOps, Act.put, List.setIfInBounds_toArray]
        clear c2 f2
        have hlen : j + 1 ≤ n := hlt
        have hlen2 : (j : Int) + 1 ≤ (n : Int) := by omega
        have HREL : Hid (∃ (j' : Nat) (v : Value), j' ≤ n ∧ Value.int .i64 ((j : Int) + 1) = .int .i64 j' ∧ InAt (w'.setCell ⟨h4, 2, none⟩ (.slice (some ⟨gd, 0, none⟩) (j + 1) cap)) g (T j').2 ∧ Blk (w'.setCell ⟨h4, 2, none⟩ (.slice (some ⟨gd, 0, none⟩) (j + 1) cap)) h4 99 #[.int .i64 si, .bool fb, v] ∧ (w'.setCell ⟨h4, 2, none⟩ (.slice (some ⟨gd, 0, none⟩) (j + 1) cap)).ownsRow w.heap.size 3 1 v j' ((T j').1.map (Value.int .i64)) ∧ v.ownBlock ≠ some g ∧ v.ownBlock ≠ some h4 ∧ v.ownBlock ≠ some w.heap.size ∧ Blk (w'.setCell ⟨h4, 2, none⟩ (.slice (some ⟨gd, 0, none⟩) (j + 1) cap)) w.heap.size 99 #[.int .i64 0, .bool false, .slice none 0 0] ∧ Below w.heap.size w (w'.setCell ⟨h4, 2, none⟩ (.slice (some ⟨gd, 0, none⟩) (j + 1) cap))) := Lib.hid (by
          have k := HK.out
          have hgh : h4 ≠ g := fun e => HGN.out (by rw [e])
          have l3 : L 3 = true := HLL.out
          have hrd := k.rd
          rw [l3, if_pos rfl, HS2.out] at hrd
          have hd := k.hd.put 2 (.slice (some ⟨gd, 0, none⟩) (j + 1) cap)
          have hw4 := HW4.out
          refine ⟨j + 1, .slice (some ⟨gd, 0, none⟩) (j + 1) cap, hlen, by simp, Blk.far hrd (fun e => hgh e.symm) _, hd, ?_, by simpa [Value.ownBlock] using n1, by simpa [Value.ownBlock] using n2, ?_, ?_, k.below.setCell (by show w.heap.size ≤ h4; omega) _⟩
          · rw [HTK.out]
            exact row_kept' HOWN.out (fun q e => Below.heap_setCell _ _ _ _ (fun e2 => by cases e; exact n2 e2))
          · simpa [Value.ownBlock] using n3
          · exact Blk.far k.r0 (fun e => by have e : w.heap.size = h4 := e; omega) _)
        clear HK HOWN
        go_wp2_with fail
        go_roundw
        case rel => exact HREL.out
        case measure => simp [intOf]; omega
    · obtain rfl : j = n := by omega
      have c0 := HH.out.cell 0
      have c1 := HH.out.cell 1
      have c2 := HH.out.cell 2
      have r0 := HR0.out.cell 0
      have r1 := HR0.out.cell 1
      have r2 := HR0.out.cell 2
      have f0 := HR0.out.frozen 0
      have f1 := HR0.out.frozen 1
      have f2 := HR0.out.frozen 2
      simp at c0 c1 c2 r0 r1 r2
      go_wp2_with fail
      have b3 := ((HR0.out.put 0 (.int .i64 si)).put 1 (.bool fb)).put 2 (.slice pv j cv)
      refine ret_cell rfl rfl (head_var b3) rfl ?_
      refine ⟨pv, cv, by unfold HD.val; simp only; rw [HTL.out], row_kept' HRW.out (fun q e => ?_), by omega, ((HB.out.setCell (Nat.le_refl _) _).setCell (Nat.le_refl _) _).setCell (Nat.le_refl _) _⟩
      have hne : q ≠ w.heap.size := fun e2 => HVG.out.2.2 (by rw [← e2]; exact e)
      exact (Below.heap_setCell _ _ _ _ (fun e => hne e)).trans ((Below.heap_setCell _ _ _ _ (fun e => hne e)).trans (Below.heap_setCell _ _ _ _ (fun e => hne e)))
open Go.Shelf
def h_lays160_ren : Go.Shelf.Ren := ⟨fun | 160 => 129 | 232 => 154 | 231 => 153 | 227 => 155 | 234 => 157 | 233 => 156 | 236 => 159 | 235 => 158 | 228 => 169 | 271 => 172 | 151 => 171 | 197 => 170 | 120 => 187 | 152 => 186 | 260 => 185 | 137 => 191 | 119 => 192 | 224 => 193 | 225 => 194 | 217 => 196 | 266 => 197 | n => n, fun | 9 => 9 | 4 => 4 | 3 => 3 | 5 => 5 | 117 => 201 | 116 => 200 | 0 => 0 | 124 => 204 | 21 => 21 | 105 => 217 | 46 => 102 | 119 => 235 | 139 => 238 | 138 => 237 | n => n, fun | 3 => 1 | 4 => 2 | n => n⟩
theorem h_lays160 : Go.Proofs.Lays.n160 Tryz.prog h_lays160_ren := {
  mixed := by kernel_rfl
  f119 := Tryz.func192.trans (congrArg some (by kernel_rfl))
  f120 := Tryz.func187.trans (congrArg some (by kernel_rfl))
  f137 := Tryz.func191.trans (congrArg some (by kernel_rfl))
  f151 := Tryz.func171.trans (congrArg some (by kernel_rfl))
  f152 := Tryz.func186.trans (congrArg some (by kernel_rfl))
  f160 := Tryz.func129.trans (congrArg some (by kernel_rfl))
  f197 := Tryz.func170.trans (congrArg some (by kernel_rfl))
  f217 := Tryz.func196.trans (congrArg some (by kernel_rfl))
  f224 := Tryz.func193.trans (congrArg some (by kernel_rfl))
  f225 := Tryz.func194.trans (congrArg some (by kernel_rfl))
  f227 := Tryz.func155.trans (congrArg some (by kernel_rfl))
  f228 := Tryz.func169.trans (congrArg some (by kernel_rfl))
  f231 := Tryz.func153.trans (congrArg some (by kernel_rfl))
  f232 := Tryz.func154.trans (congrArg some (by kernel_rfl))
  f233 := Tryz.func156.trans (congrArg some (by kernel_rfl))
  f234 := Tryz.func157.trans (congrArg some (by kernel_rfl))
  f235 := Tryz.func158.trans (congrArg some (by kernel_rfl))
  f236 := Tryz.func159.trans (congrArg some (by kernel_rfl))
  f260 := Tryz.func185.trans (congrArg some (by kernel_rfl))
  f266 := Tryz.func197.trans (congrArg some (by kernel_rfl))
  f271 := Tryz.func172.trans (congrArg some (by kernel_rfl))
  t0 := Tryz.underlying0
  a0 := Tryz.isAgg0
  z0 := Tryz.sizeOf0
  v0 := Tryz.zeroValue0
  t3 := Tryz.underlying3
  a3 := Tryz.isAgg3
  z3 := Tryz.sizeOf3
  v3 := Tryz.zeroValue3
  t4 := Tryz.underlying4
  a4 := Tryz.isAgg4
  z4 := Tryz.sizeOf4
  v4 := Tryz.zeroValue4
  t5 := Tryz.underlying5
  a5 := Tryz.isAgg5
  z5 := Tryz.sizeOf5
  v5 := Tryz.zeroValue5
  t9 := Tryz.underlying9
  a9 := Tryz.isAgg9
  z9 := Tryz.sizeOf9
  v9 := Tryz.zeroValue9
  t21 := Tryz.underlying21
  a21 := Tryz.isAgg21
  z21 := Tryz.sizeOf21
  v21 := Tryz.zeroValue21
  t46 := Tryz.underlying102
  a46 := Tryz.isAgg102
  z46 := Tryz.sizeOf102
  v46 := Tryz.zeroValue102
  t105 := Tryz.underlying217
  a105 := Tryz.isAgg217
  z105 := Tryz.sizeOf217
  v105 := Tryz.zeroValue217
  t116 := Tryz.underlying200
  a116 := Tryz.isAgg200
  z116 := Tryz.sizeOf200
  t117 := Tryz.underlying201
  a117 := Tryz.isAgg201
  z117 := Tryz.sizeOf201
  v117 := Tryz.zeroValue201
  t119 := Tryz.underlying235
  a119 := Tryz.isAgg235
  z119 := Tryz.sizeOf235
  t124 := Tryz.underlying204
  a124 := Tryz.isAgg204
  z124 := Tryz.sizeOf204
  v124 := Tryz.zeroValue204
  t138 := Tryz.underlying237
  a138 := Tryz.isAgg237
  z138 := Tryz.sizeOf237
  v138 := Tryz.zeroValue237
  t139 := Tryz.underlying238
  a139 := Tryz.isAgg238
  z139 := Tryz.sizeOf238
  v139 := Tryz.zeroValue238
  g3 := by kernel_rfl
  g4 := by kernel_rfl }
open Go.RowKit in
theorem h_strings_Trim_one (s : ByteArray) (c : UInt8) (hc : c.toNat < 128) (w : World) (hs : s.size ≤ 9223372036854775807) :
    Calls Tryz.prog 129 #[.string s, .string ⟨#[c]⟩] w fun e w' => e = .returned (.string ⟨(Lib.trimB s.data.toList c).toArray⟩) ∧ (w' = w ∨ w' = w.drew) := Any.strings_Trim_one h_lays160 s c hc w hs
def h_laysNm220_ren : Go.Shelf.Ren := ⟨fun | 20 => 148 | n => n, fun | 22 => 39 | 3 => 3 | 4 => 4 | 0 => 0 | n => n, fun | n => n⟩
theorem h_laysNm220 : Go.Proofs.Lays2.n20 Tryz.prog h_laysNm220_ren := {
  mixed := by kernel_rfl
  f20 := Tryz.func148.trans (congrArg some (by kernel_rfl))
  t0 := Tryz.underlying0
  a0 := Tryz.isAgg0
  z0 := Tryz.sizeOf0
  v0 := Tryz.zeroValue0
  t3 := Tryz.underlying3
  a3 := Tryz.isAgg3
  z3 := Tryz.sizeOf3
  v3 := Tryz.zeroValue3
  t4 := Tryz.underlying4
  a4 := Tryz.isAgg4
  z4 := Tryz.sizeOf4
  v4 := Tryz.zeroValue4
  t22 := Tryz.underlying39
  a22 := Tryz.isAgg39
  z22 := Tryz.sizeOf39
  v22 := Tryz.zeroValue39
  i3 := by kernel_rfl }
open Go.RowKit Go.Lib Go.Sort in
theorem h_slices_Compact_int_empty (a : Option Addr) (cap : Nat) (w : World) :
    Calls Tryz.prog 148 #[.slice a 0 cap] w fun e w' => e = .returned (.slice a 0 cap) ∧ w' = w := Any.slices_Compact_int_empty h_laysNm220 a cap w
def h_laysSlM5_f11_ren : Go.Shelf.Ren := ⟨fun | 5 => 147 | 8 => 118 | 7 => 167 | 19 => 145 | 20 => 146 | 10 => 176 | 11 => 177 | 12 => 178 | 13 => 179 | 14 => 180 | 15 => 181 | 16 => 182 | 17 => 183 | 18 => 184 | 30 => 188 | 31 => 163 | 32 => 164 | 33 => 189 | 34 => 190 | 35 => 119 | 40 => 195 | n => n, fun | 23 => 39 | 25 => 3 | 3 => 3 | 32 => 102 | 22 => 39 | 0 => 0 | 44 => 154 | 46 => 121 | 4 => 4 | 36 => 186 | 35 => 185 | 41 => 190 | 5 => 5 | 9 => 9 | 53 => 208 | 57 => 212 | 63 => 223 | 64 => 224 | n => n, fun | n => n⟩
theorem h_laysSlM5_f11 : Go.Proofs.SlLaysM.n5 Tryz.prog h_laysSlM5_f11_ren := {
  mixed := by kernel_rfl
  f5 := ⟨Tryz.f147.name, by decide, Tryz.func147.trans (congrArg some (by kernel_rfl))⟩
  f7 := ⟨Tryz.f167.name, by decide, Tryz.func167.trans (congrArg some (by kernel_rfl))⟩
  f8 := Tryz.func118.trans (congrArg some (by kernel_rfl))
  f10 := ⟨Tryz.f176.name, by decide, Tryz.func176.trans (congrArg some (by kernel_rfl))⟩
  f11 := ⟨Tryz.f177.name, by decide, Tryz.func177.trans (congrArg some (by kernel_rfl))⟩
  f12 := ⟨Tryz.f178.name, by decide, Tryz.func178.trans (congrArg some (by kernel_rfl))⟩
  f13 := ⟨Tryz.f179.name, by decide, Tryz.func179.trans (congrArg some (by kernel_rfl))⟩
  f14 := ⟨Tryz.f180.name, by decide, Tryz.func180.trans (congrArg some (by kernel_rfl))⟩
  f15 := ⟨Tryz.f181.name, by decide, Tryz.func181.trans (congrArg some (by kernel_rfl))⟩
  f16 := ⟨Tryz.f182.name, by decide, Tryz.func182.trans (congrArg some (by kernel_rfl))⟩
  f17 := ⟨Tryz.f183.name, by decide, Tryz.func183.trans (congrArg some (by kernel_rfl))⟩
  f18 := ⟨Tryz.f184.name, by decide, Tryz.func184.trans (congrArg some (by kernel_rfl))⟩
  f19 := Tryz.func145.trans (congrArg some (by kernel_rfl))
  f20 := Tryz.func146.trans (congrArg some (by kernel_rfl))
  f30 := ⟨Tryz.f188.name, by decide, Tryz.func188.trans (congrArg some (by kernel_rfl))⟩
  f31 := Tryz.func163.trans (congrArg some (by kernel_rfl))
  f32 := Tryz.func164.trans (congrArg some (by kernel_rfl))
  f33 := ⟨Tryz.f189.name, by decide, Tryz.func189.trans (congrArg some (by kernel_rfl))⟩
  f34 := ⟨Tryz.f190.name, by decide, Tryz.func190.trans (congrArg some (by kernel_rfl))⟩
  f35 := ⟨Tryz.f119.name, by decide, Tryz.func119.trans (congrArg some (by kernel_rfl))⟩
  f40 := ⟨Tryz.f195.name, by decide, Tryz.func195.trans (congrArg some (by kernel_rfl))⟩
  t0 := Tryz.underlying0
  a0 := Tryz.isAgg0
  z0 := Tryz.sizeOf0
  v0 := Tryz.zeroValue0
  t3 := Tryz.underlying3
  a3 := Tryz.isAgg3
  z3 := Tryz.sizeOf3
  v3 := Tryz.zeroValue3
  t4 := Tryz.underlying4
  a4 := Tryz.isAgg4
  z4 := Tryz.sizeOf4
  v4 := Tryz.zeroValue4
  t5 := Tryz.underlying5
  a5 := Tryz.isAgg5
  z5 := Tryz.sizeOf5
  v5 := Tryz.zeroValue5
  t9 := Tryz.underlying9
  a9 := Tryz.isAgg9
  z9 := Tryz.sizeOf9
  v9 := Tryz.zeroValue9
  t22 := Tryz.underlying39
  a22 := Tryz.isAgg39
  z22 := Tryz.sizeOf39
  v22 := Tryz.zeroValue39
  t23 := Tryz.underlying39
  a23 := Tryz.isAgg39
  z23 := Tryz.sizeOf39
  v23 := Tryz.zeroValue39
  t25 := Tryz.underlying3
  a25 := Tryz.isAgg3
  z25 := Tryz.sizeOf3
  v25 := Tryz.zeroValue3
  t32 := Tryz.underlying102
  a32 := Tryz.isAgg102
  z32 := Tryz.sizeOf102
  v32 := Tryz.zeroValue102
  t35 := Tryz.underlying185
  a35 := Tryz.isAgg185
  z35 := Tryz.sizeOf185
  v35 := Tryz.zeroValue185
  t36 := Tryz.underlying186
  a36 := Tryz.isAgg186
  z36 := Tryz.sizeOf186
  v36 := Tryz.zeroValue186
  t41 := Tryz.underlying190
  a41 := Tryz.isAgg190
  z41 := Tryz.sizeOf190
  v41 := Tryz.zeroValue190
  t44 := Tryz.underlying154
  a44 := Tryz.isAgg154
  z44 := Tryz.sizeOf154
  v44 := Tryz.zeroValue154
  t46 := Tryz.underlying121
  a46 := Tryz.isAgg121
  z46 := Tryz.sizeOf121
  v46 := Tryz.zeroValue121
  t53 := Tryz.underlying208
  a53 := Tryz.isAgg208
  z53 := Tryz.sizeOf208
  v53 := Tryz.zeroValue208
  t57 := Tryz.underlying212
  a57 := Tryz.isAgg212
  z57 := Tryz.sizeOf212
  v57 := Tryz.zeroValue212
  t63 := Tryz.underlying223
  a63 := Tryz.isAgg223
  z63 := Tryz.sizeOf223
  v63 := Tryz.zeroValue223
  t64 := Tryz.underlying224
  a64 := Tryz.isAgg224
  z64 := Tryz.sizeOf224
  v64 := Tryz.zeroValue224 }
open Go.Sort Go.RowKit in
theorem h_slices_Sort_int (blk off cap : Nat) (zs : List Int) (w : World) (hH : Holds (Value.int .i64) w blk off zs.toArray) (hblk : blk < w.heap.size) (hsz : zs.length < 4611686018427387904) :
    Calls Tryz.prog 147 #[.slice (some ⟨blk, off, none⟩) zs.length cap] w fun e w' =>
      e = .returned (.tuple #[]) ∧ ∃ n os, w' = grow (putRow (Value.int .i64) (Sort.ahead w n) blk off (zs.mergeSort fun x y => decide (x ≤ y)).toArray) os := AnyM.slices_Sort_int h_laysSlM5_f11 blk off cap zs w hH hblk hsz
open Go.RowKit Go.Sort in
theorem h_slices_Sort_int_none (p : Option Addr) (cap : Nat) (w : World) :
    Calls Tryz.prog 147 #[.slice p 0 cap] w fun e w' => e = .returned (.tuple #[]) ∧ w' = w := AnyM.slices_Sort_int_none h_laysSlM5_f11 p cap w
def openV (l : List UInt8) : Value := .tuple #[.string ⟨(openB l).1.toArray⟩, .int .i64 (openB l).2]
set_option maxRecDepth 100000 in
set_option maxHeartbeats 1000000 in
theorem open_short (b : ByteArray) (w : World) (h : b.size < 4) :
    Calls Tryz.prog 104 #[.string b] w fun e w' => e = .returned (openV b.data.toList) ∧ w = w' := by
  have E : openV b.data.toList = .tuple #[.string .empty, .int .i64 5] := by unfold openV openB; rw [if_pos (by rw [← Lib.size_eq]; exact h)]; rfl
  rw [E]
  clear E
  go_enter Tryz.func104, Tryz.ntmps104
  go_wp2_with fail
  go_ret2
  exact ⟨rfl, rfl⟩
theorem num_four (T : ByteArray) (h : T.size = 4) : ((Rd.mk T 0).num 4).1 = (low T.data.toList : Int) := by
  have e : (Rd.mk T 0).take 4 = (T, true, ⟨.empty, 0⟩) := by
    unfold Rd.take
    rw [if_neg (by simp), if_neg (by omega), if_neg (by simp only []; omega)]
    have e1 : T.extract 0 (4 : Int).toNat = T := by
      have : (4 : Int).toNat = T.size := by rw [h]; rfl
      rw [this]
      exact ByteArray.extract_zero_size
    have e2 : T.extract (4 : Int).toNat T.size = .empty := by
      have : (4 : Int).toNat = T.size := by rw [h]; rfl
      rw [this]
      apply ByteArray.ext
      simp
    simp only [e1, e2]
  have hl := low_lt T.data.toList
  have hs : T.data.toList.length = 4 := by rw [← Lib.size_eq]; exact h
  rw [hs] at hl
  unfold Rd.num
  have e' : (Rd.mk T 0).take ((4 : Nat) : Int) = (T, true, ⟨.empty, 0⟩) := e
  rw [e', if_pos rfl, if_neg (by simp only []; omega)]
theorem cats_single (x : ByteArray) : cats [x] = x.data.toList := by simp [cats]
def apartB (a c : Nat) : Bool := ((a : Int) != (c : Int))
theorem openV_of {b H T : ByteArray} {k : Nat} (hk : b.size = k + 4) (hT : T = b.extract k b.size) (hH : H = b.extract 0 k) :
    openV b.data.toList = if low T.data.toList = crc H.data.toList then .tuple #[.string H, .int .i64 0] else .tuple #[.string .empty, .int .i64 7] := by
  have hl : b.data.toList.length = k + 4 := by rw [← Lib.size_eq]; exact hk
  have eT : T.data.toList = b.data.toList.drop k := by
    rw [hT, ByteArray.data_extract, Array.toList_extract, List.extract_eq_take_drop, List.take_of_length_le (by rw [List.length_drop, hl, hk]; exact Nat.le_refl _)]
  have eH : H.data.toList = b.data.toList.take k := by
    rw [hH, ByteArray.data_extract, Array.toList_extract, List.extract_eq_take_drop, List.drop_zero, Nat.sub_zero]
  unfold openV openB
  rw [if_neg (by omega), show b.data.toList.length - 4 = k by omega, ← eT, ← eH]
  split <;> rfl
theorem apartB_no {a c : Nat} (h : a = c) : apartB a c = false := by unfold apartB; rw [h]; simp
theorem apartB_yes {a c : Nat} (h : a ≠ c) : apartB a c = true := by unfold apartB; rw [bne_iff_ne]; omega
section
variable (b H T : ByteArray) (k : Nat) (w0 : World)
def opFact (w : World) (L : Nat → Bool) (i : Nat) (v : Value) : Prop :=
  match i with
  | 0 | 5 => v = .string b
  | 1 | 6 => v = .int .i64 k
  | 2 => v = .string T
  | 3 => L 4 = false → ∃ g, v = .pointer (some ⟨g, 0, none⟩) ∧ w0.heap.size ≤ g ∧ InAt w g ⟨T, 0⟩
  | 4 => v = .int .i64 (low T.data.toList)
  | 7 => v = .string H
  | 8 => ∃ g, v = .slice (some ⟨g, 0, none⟩) 1 1 ∧ w0.heap.size ≤ g ∧ Blk w g 9 #[.string H]
  | 9 => v = .int .u32 (crc H.data.toList)
  | 10 => v = .int .i64 (crc H.data.toList)
  | _ => v = .bool (apartB (low T.data.toList) (crc H.data.toList))
theorem opFact_list {w : World} {L : Nat → Bool} {v : Value} (h : opFact b H T k w0 w L 8 v) : ∃ g, v = .slice (some ⟨g, 0, none⟩) 1 1 ∧ w0.heap.size ≤ g ∧ Blk w g 9 #[.string H] := by
  unfold opFact at h
  exact h
theorem opFact_below {w w' : World} {L L' : Nat → Bool} (hb : Below w.heap.size w w') (hL : L' 4 = false → L 4 = false) (i : Nat) (v : Value) (h : opFact b H T k w0 w L i v) : opFact b H T k w0 w' L' i v := by
  unfold opFact at *
  split at h <;> first
    | exact h
    | (intro h4; obtain ⟨g, e, h1, h2⟩ := h (hL h4); exact ⟨g, e, h1, h2.below hb (Blk.lt h2)⟩)
    | (obtain ⟨g, e, h1, h2⟩ := h; exact ⟨g, e, h1, h2.below hb h2.lt⟩)
theorem opFact_word {w w' : World} {L L' : Nat → Bool} {g : Nat} {s : Rd} (hg : w.grownBy w' (some g)) (hI : InAt w g s) (hL : L' 4 = true) (i : Nat) (v : Value) (h : opFact b H T k w0 w L i v) : opFact b H T k w0 w' L' i v := by
  unfold opFact at *
  split at h <;> first
    | exact h
    | (intro h4; rw [hL] at h4; cases h4)
    | (obtain ⟨g', e, h1, h2⟩ := h
       refine ⟨g', e, h1, h2.grown hg (fun e => ?_)⟩
       injection e with e
       subst e
       have := h2.symm.trans hI
       injection this with this
       injection this with _ this
       cases this)
def opF (b : ByteArray) (k : Nat) : Act :=
  ⟨#[.string b, undef, .string .empty, .int .i64 0, .int .i64 k, .string b, .int .i64 b.size, .int .i64 k, .int .i64 k, .bool (decide ((k : Int) < 0)), undef, undef, undef, undef, undef, undef, undef, undef, undef, undef, undef, undef, undef, undef, undef, undef], []⟩
def opInv (F : Act) (L : Nat → Bool) (x : Act) (w : World) : Prop := FrameKept F 10 21 x ∧ Left 12 10 (opFact b H T k w0 w L) L x ∧ Below w0.heap.size w0 w
theorem op_next {F : Act} {L : Nat → Bool} {x : Act} {w w' : World} (hF26 : F.tmps.size = 26) (i : Nat) (v : Value) (h : opInv b H T k w0 F L x w) (hi : i < 12) (h4 : i ≠ 4) (hb : Below w.heap.size w w')
    (hv : opFact b H T k w0 w' (fun j => if i = j then true else L j) i v) : opInv b H T k w0 F (fun j => if i = j then true else L j) (x.put (some (10 + i)) v) w' := by
  obtain ⟨h1, h2, h3⟩ := h
  refine ⟨h1.put _ v (by omega) (by omega), h2.next i v (by rw [h1.2.1, hF26]; omega) (fun j u _ _ hju => opFact_below b H T k w0 hb (fun hL => ?_) j u hju) hv, h3.trans (hb.mono h3.size)⟩
  simpa only [if_neg h4] using hL
theorem op_word {F : Act} {L : Nat → Bool} {x : Act} {w w' : World} {g : Nat} (hF26 : F.tmps.size = 26) (h : opInv b H T k w0 F L x w) (hI : InAt w g ⟨T, 0⟩) (hg0 : w0.heap.size ≤ g) (hg : w.grownBy w' (some g)) :
    opInv b H T k w0 F (fun j => if 4 = j then true else L j) (x.put (some (10 + 4)) (.int .i64 (low T.data.toList))) w' := by
  obtain ⟨h1, h2, h3⟩ := h
  refine ⟨h1.put _ _ (by omega) (by omega), h2.next 4 _ (by rw [h1.2.1, hF26]; omega) (fun j u _ _ hju => opFact_word b H T k w0 hg hI rfl j u hju) rfl, below_by_new h3 hg hg0⟩
end
set_option maxRecDepth 100000 in
set_option maxHeartbeats 4000000 in
theorem open_in (b : ByteArray) (k : Nat) (w : World) (hk : b.size = k + 4) (hb : b.size ≤ 140737488351232) :
    Calls Tryz.prog 104 #[.string b] w fun e w' => e = .returned (openV b.data.toList) ∧ Below w.heap.size w w' := by
  have hk1 : k + 4 ≤ b.size := by omega
  have hk2 : b.size ≤ k + 4 := by omega
  have HKB := Lib.hid hk
  clear hk
  obtain ⟨T, hT⟩ : ∃ T, T = b.extract k b.size := ⟨_, rfl⟩
  obtain ⟨H, hH⟩ : ∃ H, H = b.extract 0 k := ⟨_, rfl⟩
  have HT := Lib.hid hT
  have HH := Lib.hid hH
  have HT4 : Hid (T.size = 4) := Lib.hid (by rw [hT]; simp; omega)
  have HHs : Hid (H.size ≤ 140737488351232) := Lib.hid (by rw [hH]; simp; omega)
  clear hT hH
  go_enter Tryz.func104, Tryz.ntmps104
  go_upto_region 4 with fail
  rw [show (b.size : Int) - 4 = (k : Int) from by omega]
  refine wp_region_kept (opInv b H T k w (opF b k)) (by kernel_rfl) (by kernel_rfl) ?h0 ?hs ?hd
  case h0 => exact ⟨FrameKept.refl _ _ _, (fun _ _ h => by cases h), (Below.refl _ _).drew⟩
  case hd =>
    intro L x wi ⟨hF, hfact, hbi⟩ hall
    obtain ⟨t, d⟩ := x
    obtain ⟨x0, x1, x2, x3, x4, x5, x6, x7, x8, x9, x10, x11, x12, x13, x14, x15, x16, x17, x18, x19, x20, x21, x22, x23, x24, x25, rfl⟩ := arr26 t hF.2.1
    obtain rfl : d = [] := hF.1
    have e21 : x21 = .bool (apartB (low T.data.toList) (crc H.data.toList)) := hfact 11 (by omega) (hall 11 (show 11 < 12 by omega))
    subst e21
    obtain rfl : x0 = .string b := Option.some.inj (hF.2.2 0 (by omega))
    obtain rfl : x1 = undef := Option.some.inj (hF.2.2 1 (by omega))
    obtain rfl : x2 = .string .empty := Option.some.inj (hF.2.2 2 (by omega))
    obtain rfl : x3 = .int .i64 0 := Option.some.inj (hF.2.2 3 (by omega))
    obtain rfl : x4 = .int .i64 k := Option.some.inj (hF.2.2 4 (by omega))
    obtain rfl : x5 = .string b := Option.some.inj (hF.2.2 5 (by omega))
    obtain rfl : x6 = .int .i64 b.size := Option.some.inj (hF.2.2 6 (by omega))
    obtain rfl : x7 = .int .i64 k := Option.some.inj (hF.2.2 7 (by omega))
    obtain rfl : x8 = .int .i64 k := Option.some.inj (hF.2.2 8 (by omega))
    obtain rfl : x9 = .bool (decide ((k : Int) < 0)) := Option.some.inj (hF.2.2 9 (by omega))
    obtain rfl : x22 = undef := Option.some.inj (hF.2.2 22 (by omega))
    obtain rfl : x23 = undef := Option.some.inj (hF.2.2 23 (by omega))
    obtain rfl : x24 = undef := Option.some.inj (hF.2.2 24 (by omega))
    obtain rfl : x25 = undef := Option.some.inj (hF.2.2 25 (by omega))
    clear hF hfact hall
    have HV := Lib.hid (openV_of HKB.out HT.out HH.out)
    by_cases he : low T.data.toList = crc H.data.toList
    · have HE := Lib.hid he
      rw [apartB_no he]
      clear he
      have hx2 : b.extract 0 k = H := HH.out.symm
      go_wp2_with (go_at_call 64; refine (clone_any H _ (by have := HHs.out; omega)).mono ?_; rintro e w1 ⟨rfl, hb1⟩)
      go_ret2
      exact ⟨by rw [HV.out, if_pos HE.out]; rfl, hbi.trans (hb1.mono hbi.size)⟩
    · have HE := Lib.hid he
      rw [apartB_yes he]
      clear he
      go_wp2_with fail
      go_ret2
      exact ⟨by rw [HV.out, if_neg HE.out]; rfl, hbi⟩
  case hs =>
    intro L x wi i hI hi hL hw
    have hi : i < 12 := hi
    obtain ⟨hF, hfact, hbi⟩ := id hI
    rcases (show i = 0 ∨ i = 1 ∨ i = 2 ∨ i = 3 ∨ i = 4 ∨ i = 5 ∨ i = 6 ∨ i = 7 ∨ i = 8 ∨ i = 9 ∨ i = 10 ∨ i = 11 by omega) with rfl | rfl | rfl | rfl | rfl | rfl | rfl | rfl | rfl | rfl | rfl | rfl
    · have e0 : x.tmps[0]?.getD undef = .string b := hF.get 0 (by omega)
      have HK := Lib.hid (op_next b H T k w (F := opF b k) (L := L) (x := x) (w := wi) (w' := wi) rfl 0 (.string b) hI hi (by omega) (Below.refl _ _) rfl)
      clear hI hF hfact hbi hw hL hi
      refine wpOp_value (v := (.string b)) (w' := wi) rfl rfl ?_ HK.out
      go_simp
    · have e4 : x.tmps[4]?.getD undef = .int .i64 k := hF.get 4 (by omega)
      have HK := Lib.hid (op_next b H T k w (F := opF b k) (L := L) (x := x) (w := wi) (w' := wi) rfl 1 (.int .i64 k) hI hi (by omega) (Below.refl _ _) rfl)
      clear hI hF hfact hbi hw hL hi
      refine wpOp_value (v := (.int .i64 k)) (w' := wi) rfl rfl ?_ HK.out
      go_simp
    · have e1 : x.tmps[10]?.getD undef = .string b := (hfact 0 (by omega) (hw 0 (of_decide_eq_true (by kernel_rfl))))
      have e2 : x.tmps[11]?.getD undef = .int .i64 k := (hfact 1 (by omega) (hw 1 (of_decide_eq_true (by kernel_rfl))))
      have ex : b.extract k b.size = T := HT.out.symm
      have HK := Lib.hid (op_next b H T k w (F := opF b k) (L := L) (x := x) (w := wi) (w' := wi) rfl 2 (.string T) hI hi (by omega) (Below.refl _ _) rfl)
      clear hI hF hfact hbi hw hL hi
      refine wpOp_value (v := (.string T)) (w' := wi) rfl rfl ?_ HK.out
      go_simp
      intro hlt
      omega
    · have e1 : x.tmps[12]?.getD undef = .string T := (hfact 2 (by omega) (hw 2 (of_decide_eq_true (by kernel_rfl))))
      have HC := Lib.hid ((on_any T wi (by have := HT4.out; omega)).mono (fun e w'' ⟨g, he, hg, h1, h2⟩ => show ∃ v, e = Ending.returned v ∧ opInv b H T k w (opF b k) (fun j => if 3 = j then true else L j) (x.put (some (10 + 3)) v) w'' from
        ⟨_, he, op_next b H T k w (F := opF b k) rfl 3 _ hI hi (by omega) h2 (fun _ => ⟨g, rfl, Nat.le_trans hbi.size hg, h1⟩)⟩))
      clear hI hF hfact hbi hw hL hi
      refine wpOp_call rfl rfl ?_ HC.out
      go_simp
    · obtain ⟨g, e1, hg0, hin⟩ : ∃ g, x.tmps[13]?.getD undef = .pointer (some ⟨g, 0, none⟩) ∧ w.heap.size ≤ g ∧ InAt wi g ⟨T, 0⟩ := (hfact 3 (by omega) (hw 3 (of_decide_eq_true (by kernel_rfl)))) hL
      have HC := Lib.hid ((in_word g ⟨T, 0⟩ wi hin (by have := HT4.out; simp only []; omega)).mono (fun e w'' ⟨he, h1, h2⟩ => show ∃ v, e = Ending.returned v ∧ opInv b H T k w (opF b k) (fun j => if 4 = j then true else L j) (x.put (some (10 + 4)) v) w'' from
        ⟨_, he.trans (by rw [num_four T HT4.out]), op_word b H T k w (F := opF b k) rfl hI hin hg0 h2⟩))
      clear hI hF hfact hbi hw hL hi hin
      refine wpOp_call rfl rfl ?_ HC.out
      go_simp
    · have e0 : x.tmps[0]?.getD undef = .string b := hF.get 0 (by omega)
      have HK := Lib.hid (op_next b H T k w (F := opF b k) (L := L) (x := x) (w := wi) (w' := wi) rfl 5 (.string b) hI hi (by omega) (Below.refl _ _) rfl)
      clear hI hF hfact hbi hw hL hi
      refine wpOp_value (v := (.string b)) (w' := wi) rfl rfl ?_ HK.out
      go_simp
    · have e4 : x.tmps[4]?.getD undef = .int .i64 k := hF.get 4 (by omega)
      have HK := Lib.hid (op_next b H T k w (F := opF b k) (L := L) (x := x) (w := wi) (w' := wi) rfl 6 (.int .i64 k) hI hi (by omega) (Below.refl _ _) rfl)
      clear hI hF hfact hbi hw hL hi
      refine wpOp_value (v := (.int .i64 k)) (w' := wi) rfl rfl ?_ HK.out
      go_simp
    · have e1 : x.tmps[15]?.getD undef = .string b := (hfact 5 (by omega) (hw 5 (of_decide_eq_true (by kernel_rfl))))
      have e2 : x.tmps[16]?.getD undef = .int .i64 k := (hfact 6 (by omega) (hw 6 (of_decide_eq_true (by kernel_rfl))))
      have ex : b.extract 0 k = H := HH.out.symm
      have HK := Lib.hid (op_next b H T k w (F := opF b k) (L := L) (x := x) (w := wi) (w' := wi) rfl 7 (.string H) hI hi (by omega) (Below.refl _ _) rfl)
      clear hI hF hfact hbi hw hL hi
      refine wpOp_value (v := (.string H)) (w' := wi) rfl rfl ?_ HK.out
      go_simp
      intro hlt
      omega
    · have e1 : x.tmps[17]?.getD undef = .string H := (hfact 7 (by omega) (hw 7 (of_decide_eq_true (by kernel_rfl))))
      have HK := Lib.hid (op_next b H T k w (F := opF b k) (L := L) (x := x) (w := wi) (w' := wi.alloc (.cells #[.string H] 9)) rfl 8 (.slice (some ⟨wi.heap.size, 0, none⟩) 1 1) hI hi (by omega) ((Below.refl _ _).alloc (Nat.le_refl _) _) ⟨_, rfl, hbi.size, Blk.new _ _ _⟩)
      clear hI hF hfact hbi hw hL hi
      refine wpOp_value (v := (.slice (some ⟨wi.heap.size, 0, none⟩) 1 1)) (w' := wi.alloc (.cells #[.string H] 9)) rfl rfl ?_ HK.out
      go_simp
    · obtain ⟨g, e1, hg0, hin⟩ : ∃ g, x.tmps[18]?.getD undef = .slice (some ⟨g, 0, none⟩) 1 1 ∧ w.heap.size ≤ g ∧ Blk wi g 9 #[.string H] := opFact_list b H T k w (hfact 8 (by omega) (hw 8 (of_decide_eq_true (by kernel_rfl))))
      have HC := Lib.hid ((of_any (some ⟨g, 0, none⟩) 1 1 [H] wi rfl (fun _ => ⟨g, 0, rfl, hin.lt, fun j y hy => by rw [hin.cell (0 + j)]; match j, hy with | 0, hy => (injection hy with hy; rw [← hy]; rfl)⟩) (by simp) (fun y hy => by rw [List.mem_singleton.1 hy]; exact HHs.out)).mono (fun e w'' ⟨he, h2⟩ => show ∃ v, e = Ending.returned v ∧ opInv b H T k w (opF b k) (fun j => if 9 = j then true else L j) (x.put (some (10 + 9)) v) w'' from
        ⟨_, he.trans (by rw [cats_single]), by subst h2; exact op_next b H T k w (F := opF b k) rfl 9 _ hI hi (by omega) (Below.refl _ _) rfl⟩))
      clear hI hF hfact hbi hw hL hi hin
      refine wpOp_call rfl rfl ?_ HC.out
      go_simp
    · have e1 : x.tmps[19]?.getD undef = .int .u32 (crc H.data.toList) := (hfact 9 (by omega) (hw 9 (of_decide_eq_true (by kernel_rfl))))
      have hcl := crc_lt H.data.toList
      have HK := Lib.hid (op_next b H T k w (F := opF b k) (L := L) (x := x) (w := wi) (w' := wi) rfl 10 (.int .i64 (crc H.data.toList)) hI hi (by omega) (Below.refl _ _) rfl)
      clear hI hF hfact hbi hw hL hi
      refine wpOp_value (v := (.int .i64 (crc H.data.toList))) (w' := wi) rfl rfl ?_ HK.out
      go_simp
      exact IntWalk.i64_in _ (by omega)
    · have e1 : x.tmps[14]?.getD undef = .int .i64 (low T.data.toList) := (hfact 4 (by omega) (hw 4 (of_decide_eq_true (by kernel_rfl))))
      have e2 : x.tmps[20]?.getD undef = .int .i64 (crc H.data.toList) := (hfact 10 (by omega) (hw 10 (of_decide_eq_true (by kernel_rfl))))
      have HK := Lib.hid (op_next b H T k w (F := opF b k) (L := L) (x := x) (w := wi) (w' := wi) rfl 11 (.bool (apartB (low T.data.toList) (crc H.data.toList))) hI hi (by omega) (Below.refl _ _) rfl)
      clear hI hF hfact hbi hw hL hi
      refine wpOp_value (v := (.bool (apartB (low T.data.toList) (crc H.data.toList)))) (w' := wi) rfl rfl ?_ HK.out
      go_simp
      rfl
theorem open_any (b : ByteArray) (w : World) (hb : b.size ≤ 140737488351232) :
    Calls Tryz.prog 104 #[.string b] w fun e w' => e = .returned (openV b.data.toList) ∧ Below w.heap.size w w' := by
  by_cases h : b.size < 4
  · exact (open_short b w h).mono fun e w' ⟨he, hw⟩ => ⟨he, hw ▸ Below.refl _ _⟩
  · exact open_in b (b.size - 4) w (by omega) hb
theorem hret_cell2 {P : Program} {fn : Func} {R : Ending → World → Prop} {a : Act} {w : World} {q r : Tmp} {ty : TypeId} {ad : Addr} {v u : Value} (h : fn.results = #[.cell q ty, .tmp r]) (hp : a.tmps.getD q undef = .pointer (some ad))
    (hl : (loadVar ty ad).run P w = .ok v w) (hu : a.tmps.getD r undef = u) (hd : a.defers = []) (hR : R (.returned (.tuple #[v, u])) w) : bodyPost P fn R .ret a w := by
  refine bodyPost_ret (v := .tuple #[v, u]) ?_ hd hR
  simp only [results, h]
  have hp' : a.tmps[q]?.getD undef = .pointer (some ad) := by simpa using hp
  have hu' : a.tmps[r]?.getD undef = u := by simpa using hu
  simp [hp', hu', asAddr, hl]
theorem dropWhile_keeps {l : List UInt8} (p : UInt8 → Bool) (x : UInt8) (hx : x ∈ l) (hp : p x = false) : x ∈ l.dropWhile p := by
  induction l with
  | nil => cases hx
  | cons y r ih =>
    rw [List.dropWhile_cons]
    split
    · rename_i hy
      rcases List.mem_cons.1 hx with rfl | hx
      · rw [hp] at hy; cases hy
      · exact ih hx
    · exact hx
theorem trim_keeps {l : List UInt8} (hx : (7 : UInt8) ∈ l) : (Lib.trimB l 0).isEmpty = false := by
  unfold Lib.trimB Lib.trimLeftB Lib.trimRightB
  have h1 : (7 : UInt8) ∈ (l.reverse.dropWhile (· == 0)).reverse := by
    rw [List.mem_reverse]
    exact dropWhile_keeps _ 7 (by rw [List.mem_reverse]; exact hx) (by decide)
  have h2 := dropWhile_keeps (· == 0) 7 h1 (by decide)
  cases h : ((l.reverse.dropWhile (· == 0)).reverse.dropWhile (· == 0)) with
  | nil => rw [h] at h2; cases h2
  | cons _ _ => rfl
set_option maxRecDepth 100000 in
set_option maxHeartbeats 4000000 in
theorem hread_laid (h : HD) (hvb : h.validB = true) (w : World) :
    Calls Tryz.prog 101 #[.string (bs h.text)] w fun e w' => ∃ A c, e = .returned (.tuple #[h.val A c, .int .i64 0]) ∧ h.At w' A c ∧ Below w.heap.size w w' := by
  have hv := HD.valid_of hvb
  have hlay : ∀ (A : Option Addr) (c : Nat) (W : World), h.At W A c → Calls Tryz.prog 121 #[h.val A c] W fun e w' => e = .returned (.tuple #[.string (bs h.text), .int .i64 0]) ∧ Below W.heap.size W w' := fun A c W ha => by
    have := hlay_any h A c W ha
    rwa [if_pos hvb] at this
  have hparse := hparse_any h hv
  obtain ⟨X, hX⟩ : ∃ X, X = bs h.text := ⟨_, rfl⟩
  have hXs : X.size = 256 := by rw [hX, bs_size, hv.text_len]
  obtain ⟨Y, hY⟩ : ∃ Y, Y = bs (body 256 h.bytes) := ⟨_, rfl⟩
  have HOPEN : Hid (∀ W, Calls Tryz.prog 104 #[.string X] W fun e w' => e = .returned (.tuple #[.string Y, .int .i64 0]) ∧ Below W.heap.size W w') := Lib.hid (fun W => by
    have h1 := open_any X W (by omega)
    have e : openV X.data.toList = .tuple #[.string Y, .int .i64 0] := by rw [hX, bs_list]; unfold openV; rw [HD.opened, hY]; rfl
    rwa [e] at h1)
  obtain ⟨Z, hZ⟩ : ∃ Z : ByteArray, Z = ⟨(Lib.trimB X.data.toList 0).toArray⟩ := ⟨_, rfl⟩
  have hZe : Z.toList.isEmpty = false := by
    rw [hZ, Lib.toList_data]
    show (Lib.trimB X.data.toList 0).isEmpty = false
    apply trim_keeps
    rw [hX, bs_list]
    obtain ⟨r, hr⟩ := h.text_first
    rw [hr]
    simp
  have HTRIM : Hid (∀ W, Calls Tryz.prog 129 #[.string X, .string ⟨#[0]⟩] W fun e w' => e = .returned (.string Z) ∧ Below W.heap.size W w') := Lib.hid (fun W => by
    refine (h_strings_Trim_one X 0 (by decide) W (by omega)).mono ?_
    rintro e w' ⟨rfl, hw | hw⟩
    · exact ⟨by rw [hZ], hw ▸ Below.refl _ _⟩
    · exact ⟨by rw [hZ], by rw [hw]; exact (Below.refl _ _).drew⟩)
  rw [← hX] at hlay ⊢
  rw [← hY] at hparse
  have HLAY := Lib.hid hlay
  have HPARSE := Lib.hid hparse
  have hXI : (X.size : Int) = 256 := by omega
  clear hvb hv hlay hparse hX hXs hY hZ
  go_enter Tryz.func101, Tryz.ntmps101
  go_wp2_with fail
  refine (HTRIM.out _).mono ?_
  rintro e w1 ⟨rfl, hb1⟩
  have HR1 : Hid (Blk w1 w.heap.size 99 #[.int .i64 0, .bool false, .slice none 0 0]) := Lib.hid ((Blk.new w _ _).below hb1 (by simp))
  have HB1 : Hid (Below w.heap.size w w1) := Lib.hid (((Below.refl _ _).alloc (Nat.le_refl _) _).trans (hb1.mono (by simp)))
  clear hb1
  go_wp2_with fail
  refine (HOPEN.out _).mono ?_
  rintro e w2 ⟨rfl, hb2⟩
  have HR2 : Hid (Blk w2 w.heap.size 99 #[.int .i64 0, .bool false, .slice none 0 0]) := Lib.hid (HR1.out.below hb2 HR1.out.lt)
  have HB2 : Hid (Below w.heap.size w w2) := Lib.hid (HB1.out.trans (hb2.mono HB1.out.size))
  clear hb2 hZe
  go_wp2_with fail
  refine (HPARSE.out _).mono ?_
  rintro e w3 ⟨A, c, rfl, ha, hAb, hb3⟩
  have HAB : Hid (∀ b off, A = some ⟨b, off, none⟩ → w.heap.size < b) := Lib.hid (fun b off e => by have := hAb b off e; have := HR2.out.lt; omega)
  have HR3 : Hid (Blk w3 w.heap.size 99 #[.int .i64 0, .bool false, .slice none 0 0]) := Lib.hid (HR2.out.below hb3 HR2.out.lt)
  have HB3 : Hid (Below w.heap.size w w3) := Lib.hid (HB2.out.trans (hb3.mono HB2.out.size))
  have HAT := Lib.hid ha
  clear ha hAb hb3
  have HL := Lib.hid (fun W => HLAY.out A c W)
  obtain ⟨seq, full, ts⟩ := h
  unfold HD.val at HL ⊢
  simp only at HL ⊢
  obtain ⟨n, hn⟩ : ∃ n, n = ts.length := ⟨_, rfl⟩
  rw [← hn] at HL ⊢
  have HN := Lib.hid hn
  clear hn HLAY HPARSE
  go_wp2_with fail
  have hal : (HD.mk seq full ts).At (w3.alloc (.cells #[.int .i64 seq, .bool full, .slice A n c] 99)) A c := HAT.out.below ((Below.refl _ _).alloc (Nat.le_refl _) _)
  refine (HL.out _ hal).mono ?_
  rintro e w4 ⟨rfl, hb4⟩
  have bh : Blk w4 w3.heap.size 99 #[.int .i64 seq, .bool full, .slice A n c] := (Blk.new w3 _ _).below hb4 (by simp)
  have br : Blk w4 w.heap.size 99 #[.int .i64 0, .bool false, .slice none 0 0] := HR3.out.below (((Below.refl _ _).alloc (Nat.le_refl _) _).trans (hb4.mono (by simp))) HR3.out.lt
  have HBR := Lib.hid br
  have HB4 : Hid (Below w.heap.size w w4) := Lib.hid ((HB3.out.alloc HB3.out.size _).trans (hb4.mono (by have := HB3.out.size; simp; omega)))
  have HA4 := Lib.hid (hal.below hb4).lie
  have c0 := bh.cell 0
  have c1 := bh.cell 1
  have c2 := bh.cell 2
  have r0 := br.cell 0
  have r1 := br.cell 1
  have r2 := br.cell 2
  have f0 := br.frozen 0
  have f1 := br.frozen 1
  have f2 := br.frozen 2
  simp at c0 c1 c2 r0 r1 r2
  clear hb4 hal bh br
  go_wp2_with fail
  have b3 := ((HBR.out.put 0 (.int .i64 seq)).put 1 (.bool full)).put 2 (.slice A n c)
  refine hret_cell2 rfl rfl (head_var b3) rfl rfl ?_
  refine ⟨A, c, by rw [HN.out]; rfl, ⟨fun hp => ?_, HAT.out.few⟩, ((HB4.out.setCell (Nat.le_refl _) _).setCell (Nat.le_refl _) _).setCell (Nat.le_refl _) _⟩
  obtain ⟨b, off, e, hbl, hc⟩ := HA4.out hp
  have hne : b ≠ w.heap.size := fun eb => by have := HAB.out b off e; omega
  refine ⟨b, off, e, by simpa [World.setCell] using hbl, fun i x hx => ?_⟩
  rw [World.cell?_of_block (w := w4) ((Below.heap_setCell _ _ _ _ (fun e => hne e)).trans ((Below.heap_setCell _ _ _ _ (fun e => hne e)).trans (Below.heap_setCell _ _ _ _ (fun e => hne e))))]
  exact hc i x hx
end Go.Proofs.YtiagofgcinlnhaaGreatDoor
