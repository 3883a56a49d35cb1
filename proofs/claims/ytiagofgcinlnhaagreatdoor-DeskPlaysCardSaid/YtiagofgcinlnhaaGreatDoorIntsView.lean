/-
  Lists of numbers that came in as arguments (over XNums' Ints), for a closing text. No statement is proved here.
-/
import Derived.Test.YtiagofgcinlnhaaGreatDoorDeskMark
import Derived.Test.YtiagofgcinlnhaaGreatDoorWalState
import Derived.BigQuiet
import Derived.Lib.Builder
import Derived.Test.YtiagofgcinlnhaaGreatDoorDeskSt
import Derived.Test.YtiagofgcinlnhaaGreatDoorNums
import Derived.Test.YtiagofgcinlnhaaGreatDoorBookWrites
namespace Go.Proofs.YtiagofgcinlnhaaGreatDoor
open Go.RowKit
def slBkL : List (Option Nat) := [some 32, some 33, some 34, some 35, some 36, some 37, some 38, some 39, some 40, some 41, some 42, some 43, some 44, some 45, some 46, some 47, none, some 48, some 49, none]
def slBk (i : Nat) : Option Nat := (slBkL[i]?).getD none
theorem slBk_far {s : Nat} (h : (slBkL.all fun x => x != some s) = true) {k : Nat} : ∀ i, i < k → slBk i ≠ some s := by
  intro i _ e
  unfold slBk at e
  cases hx : slBkL[i]? with
  | none => rw [hx] at e; cases e
  | some y =>
    rw [hx] at e
    have := List.all_eq_true.1 h y (List.mem_of_getElem? hx)
    simp at e
    rw [e] at this
    simp at this
def bkW (g : Nat) (L : Nat → Bool) (f : Nat → Value) (v : World) : World :=
  if L 19 = true then (v.setCell ⟨g, 1, none⟩ (f 7)).setCell ⟨g, 2, none⟩ (f 13) else if L 16 = true then v.setCell ⟨g, 1, none⟩ (f 7) else v
def BkJ (V : List (Option Value)) (g m n : Nat) (F : Int → ByteArray) (H : List Int) (W : World) (L : Nat → Bool) (f : Nat → Value) (w : World) : Prop :=
  ∃ v, MkJ V 7 13 m n F H W L f v ∧ w = bkW g L f v
section
variable {V : List (Option Value)} {g m n : Nat} {F : Int → ByteArray} {H : List Int} {W w w' : World} {L : Nat → Bool} {f : Nat → Value} {i : Nat} {u : Value}
theorem BkJ.plain (h : BkJ V g m n F H W L f w) (hv : V[i]? = some (some u)) (h1 : i ≠ 7) (h2 : i ≠ 13) (h3 : i ≠ 16) (h4 : i ≠ 19) : BkJ V g m n F H W (fun j => if i = j then true else L j) (fun j => if i = j then u else f j) w := by
  obtain ⟨v, hj, e⟩ := h
  refine ⟨v, hj.same hv h1 h2, ?_⟩
  rw [e]
  unfold bkW
  simp only [if_neg h1, if_neg h2, if_neg h3, if_neg h4]
theorem BkJ.call (h : MkJ V 7 13 m n F H W L f w) (h16 : L 16 = false) (h19 : L 19 = false) : BkJ V g m n F H W L f w := ⟨w, h, by unfold bkW; rw [h16, h19]; rfl⟩
theorem MkJ.none (h : MkJ V 7 13 m n F H W L f w) (hv : V[i]? = some none) (h1 : i ≠ 7) (h2 : i ≠ 13) : MkJ V 7 13 m n F H W (fun j => if i = j then true else L j) (fun j => if i = j then u else f j) w :=
  h.put (Below.refl _ _) ⟨(fun u hu => by rw [hv] at hu; cases hu), fun e => absurd e h1, fun e => absurd e h2⟩
theorem BkJ.st1 (h : BkJ V g m n F H W L f w) (hv : V[16]? = some none) (h16 : L 16 = false) (h19 : L 19 = false) : BkJ V g m n F H W (fun j => if 16 = j then true else L j) (fun j => if 16 = j then u else f j) (w.setCell ⟨g, 1, none⟩ (f 7)) := by
  obtain ⟨v, hj, e⟩ := h
  refine ⟨v, hj.none hv (by decide) (by decide), ?_⟩
  rw [e]
  unfold bkW
  simp [h16, h19]
theorem BkJ.st2 (h : BkJ V g m n F H W L f w) (hv : V[19]? = some none) (h16 : L 16 = true) (h19 : L 19 = false) : BkJ V g m n F H W (fun j => if 19 = j then true else L j) (fun j => if 19 = j then u else f j) (w.setCell ⟨g, 2, none⟩ (f 13)) := by
  obtain ⟨v, hj, e⟩ := h
  refine ⟨v, hj.none hv (by decide) (by decide), ?_⟩
  rw [e]
  unfold bkW
  simp [h16, h19]
end
set_option maxRecDepth 100000 in
theorem neq_self (g : Nat) (w : World) : (binOp BinOp.neq 29 (.pointer (some ⟨g, 0, none⟩)) (.pointer (some ⟨g, 0, none⟩))).run Tryz.prog w = .ok (.bool false) w := by
  obtain ⟨j, hj⟩ : ∃ j, Tryz.prog.info? 36 = some j := ⟨_, rfl⟩
  exact Lib.run_neq_ptr_same w ⟨g, 0, none⟩ Tryz.underlying29 hj
theorem below_dn' {B : Nat} (w : World) (n : Nat) : Below B w (w.drewN n) := ⟨rfl, rfl, rfl, Nat.le_refl _, fun _ _ => rfl⟩
theorem map_not_cells {w : World} {a b n m : Nat} {H : List Int} {F : Int → ByteArray} (h1 : MapW w a m F) (h2 : RoomAt w b n H) : a ≠ b := by
  rintro rfl
  obtain ⟨D, ⟨es, clock, e, _⟩, _⟩ := h1
  have := h2.blk
  unfold Blk at this
  rw [e] at this
  cases this
def backK (K : KD) (F : Int → ByteArray) (H : List Int) : KD := { K with F := F, H := H }
section
variable {w w' : World} {P : List Nat} {g gw gm gr gd m : Nat} {O : List Nat} {K : KD}
set_option maxRecDepth 100000 in
set_option maxHeartbeats 4000000 in
theorem kback_any {st B : Nat} {sy : Int} {F : Int → ByteArray} {H : List Int} (h : DeskAt w P g gd m K) (hk : MarkAt w B st g m (K.S.now.length - 111) sy F H) (hsy : sy = K.syncs) :
    Calls Tryz.prog 22 #[.pointer (some ⟨g, 0, none⟩), .agg #[.pointer (some ⟨st, 0, none⟩)]] w fun e w' => e = .returned (.tuple #[]) ∧ DTurns P g gd m (backK K F H) w w' := by
  obtain ⟨mb, rb, -, -, -, hst, hmb, hrb⟩ := hk
  obtain ⟨gw, gm, gr, O, rfl, h⟩ := h
  obtain ⟨N1, hN1⟩ : ∃ N1, N1 = K.S.now.length - 111 := ⟨_, rfl⟩
  obtain ⟨gb, hgb⟩ : ∃ gb, gb = w.heap.size := ⟨_, rfl⟩
  obtain ⟨W, hW⟩ : ∃ W, W = w.alloc (.cells #[.pointer (some ⟨st, 0, none⟩)] 46) := ⟨_, rfl⟩
  have hbW : Below w.heap.size w W := by rw [hW]; exact (Below.refl _ _).alloc (Nat.le_refl _) _
  have hsW : W.heap.size = w.heap.size + 1 := by rw [hW]; simp
  have hBW : Blk W gb 46 #[.pointer (some ⟨st, 0, none⟩)] := by rw [hW, hgb]; exact Blk.new w 46 _
  have hV := h.kept (fun b hb => hbW.block b (h.lt hb))
  have hstW := hst.below hbW hst.lt
  obtain ⟨ky, hky⟩ : ∃ ky, ky = K.syncs := ⟨_, rfl⟩
  have cb := hBW.cell 0
  have cs0 := hstW.cell 0
  have cs1 := hstW.cell 1
  have cs2 := hstW.cell 2
  have cs3 := hstW.cell 3
  have c4 := hV.blk.cell 4
  simp [deskC] at cb cs0 cs1 cs2 cs3 c4
  rw [← hky] at c4
  subst hsy
  subst hky
  have HGB : Hid (gb < W.heap.size) := Lib.hid (by omega)
  have HGS : Hid (st < W.heap.size) := Lib.hid hstW.lt
  have HGG : Hid (g < W.heap.size) := Lib.hid hV.blk.lt
  have HCB := Lib.hid cb
  have HS2 := Lib.hid cs2
  have HS3 := Lib.hid cs3
  have HBL := Lib.hid hV.blk
  have HV := Lib.hid hV
  have HbW := Lib.hid hbW
  have HSW := Lib.hid hsW
  have HLT : Hid (∀ b ∈ g :: gw :: gm :: gr :: O, b < w.heap.size) := Lib.hid (fun b hb => h.lt hb)
  have HCL : Hid (∀ w', Below W.heap.size W w' → Calls Tryz.prog 52 #[.map (some mb)] w' fun e w'' => e = .returned (.map (some w'.heap.size)) ∧ MapW w'' w'.heap.size m F ∧ Below w'.heap.size w' w'') := Lib.hid (fun w' hb => mclone_any ((hmb.below hbW).below hb))
  have HCO : Hid (∀ w', Below W.heap.size W w' → Calls Tryz.prog 46 #[.pointer (some ⟨rb, 0, none⟩)] w' fun e w'' => e = .returned (.pointer (some ⟨w'.heap.size, 0, none⟩)) ∧ RoomAt w'' w'.heap.size N1 H ∧ Below w'.heap.size w' w'') := Lib.hid (fun w' hb => by rw [hN1]; exact rcopy_any ((hrb.below hbW).below hb))
  have HN1 := Lib.hid hN1
  rw [hgb] at cb HCB HGB
  clear hst hmb hrb hV h hBW hstW hsW hbW hN1
  subst hgb
  go_enter Tryz.func22, Tryz.ntmps22
  go_upto_region 1 with fail
  rw [← hW]
  clear hW
  have hpp : ∀ w', (binOp BinOp.neq 29 (.pointer (some ⟨g, 0, none⟩)) (.pointer (some ⟨g, 0, none⟩))).run Tryz.prog w' = .ok (.bool false) w' := neq_self g
  go_quiet (fail)
  clear cb cs0 cs1 cs2 cs3 c4
  go_upto_region 2 with fail
  obtain ⟨gb, hgb⟩ : ∃ gb, gb = w.heap.size := ⟨_, rfl⟩
  rw [← hgb] at HGB HCB ⊢
  clear hgb
  refine wp_region_free 20 slBk (BkJ [some (.pointer (some ⟨g, 0, none⟩)), some (.pointer (some ⟨g, 0, none⟩)), some (.pointer (some ⟨gb, 0, none⟩)), some (.pointer (some ⟨st, 0, none⟩)), some (.pointer (some ⟨st, 0, none⟩)), some (.pointer (some ⟨st, 2, none⟩)), some (.map (some mb)), none, some (.pointer (some ⟨gb, 0, none⟩)), some (.pointer (some ⟨st, 0, none⟩)), some (.pointer (some ⟨st, 0, none⟩)), some (.pointer (some ⟨st, 3, none⟩)), some (.pointer (some ⟨rb, 0, none⟩)), none, some (.pointer (some ⟨g, 0, none⟩)), some (.pointer (some ⟨g, 1, none⟩)), none, some (.pointer (some ⟨g, 0, none⟩)), some (.pointer (some ⟨g, 2, none⟩)), none] g m N1 F H W) (by kernel_rfl) (by kernel_rfl) rfl (by kernel_rfl) (by kernel_rfl) ?h0 ?hops ?hrest
  case h0 => exact ⟨_, ⟨((Below.refl _ _).trans (below_dn' _ _)).drew, fun _ h => by cases h⟩, rfl⟩
  case hops =>
    intro o ho L f y w' hcl hF hLo hJ hw hy
    obtain ⟨v, hv, hw1⟩ := id hJ
    have hw' : L 16 = false → L 19 = false → v = w' := fun a b => by rw [hw1]; unfold bkW; rw [a, b]; rfl
    have hw16' : L 16 = true → L 19 = false → w' = v.setCell ⟨g, 1, none⟩ (f 7) := fun a b => by rw [hw1]; unfold bkW; rw [a, b]; rfl
    clear hw1
    rcases (show o = 0 ∨ o = 1 ∨ o = 2 ∨ o = 3 ∨ o = 4 ∨ o = 5 ∨ o = 6 ∨ o = 7 ∨ o = 8 ∨ o = 9 ∨ o = 10 ∨ o = 11 ∨ o = 12 ∨ o = 13 ∨ o = 14 ∨ o = 15 ∨ o = 16 ∨ o = 17 ∨ o = 18 ∨ o = 19 by omega) with rfl | rfl | rfl | rfl | rfl | rfl | rfl | rfl | rfl | rfl | rfl | rfl | rfl | rfl | rfl | rfl | rfl | rfl | rfl | rfl
    · have e0 : y.tmps[0]?.getD undef = .pointer (some ⟨g, 0, none⟩) := by rw [hF 0 (slBk_far (by kernel_rfl))]; rfl
      have HJ := Lib.hid hJ
      clear hw hy hF hcl hJ hv hw' hLo
      refine wpOp_value (v := .pointer (some ⟨g, 0, none⟩)) (w' := w') rfl rfl ?_ ⟨_, rfl, HJ.out.plain rfl (by decide) (by decide) (by decide) (by decide)⟩
      go_simp
    · have e0 : y.tmps[0]?.getD undef = .pointer (some ⟨g, 0, none⟩) := by rw [hF 0 (slBk_far (by kernel_rfl))]; rfl
      have HJ := Lib.hid hJ
      clear hw hy hF hcl hJ hv hw' hLo
      refine wpOp_value (v := .pointer (some ⟨g, 0, none⟩)) (w' := w') rfl rfl ?_ ⟨_, rfl, HJ.out.plain rfl (by decide) (by decide) (by decide) (by decide)⟩
      go_simp
    · have e3 : y.tmps[3]?.getD undef = .pointer (some ⟨gb, 0, none⟩) := by rw [hF 3 (slBk_far (by kernel_rfl))]; rfl
      have HJ := Lib.hid hJ
      clear hw hy hF hcl hJ hv hw' hLo
      refine wpOp_value (v := .pointer (some ⟨gb, 0, none⟩)) (w' := w') rfl rfl ?_ ⟨_, rfl, HJ.out.plain rfl (by decide) (by decide) (by decide) (by decide)⟩
      go_simp
    · have h16 : L 16 = false := by
        cases hl : L 16 with
        | false => rfl
        | true => exact absurd hl (by intro hl; have k3 := hcl 16 hl 3 (of_decide_eq_true (by kernel_rfl)); rw [k3] at hLo; cases hLo)
      have h19 : L 19 = false := by
        cases hl : L 19 with
        | false => rfl
        | true => rw [hcl 19 hl 16 (of_decide_eq_true (by kernel_rfl))] at h16; cases h16
      obtain rfl := hw' h16 h19
      have e34 : y.tmps[34]?.getD undef = .pointer (some ⟨gb, 0, none⟩) := (hy 2 34 (by omega) (hw 2 (of_decide_eq_true (by kernel_rfl))) rfl).trans ((hv.2 2 (hw 2 (of_decide_eq_true (by kernel_rfl)))).1 _ rfl)
      have cb := (hv.1.cell (p := ⟨gb, 0, none⟩) HGB.out).trans HCB.out
      have HJ := Lib.hid hJ
      clear hw hy hF hcl hJ hv hw' h16 h19 hLo
      refine wpOp_value (v := .pointer (some ⟨st, 0, none⟩)) (w' := v) rfl rfl ?_ ⟨_, rfl, HJ.out.plain rfl (by decide) (by decide) (by decide) (by decide)⟩
      go_simp
    · have e35 : y.tmps[35]?.getD undef = .pointer (some ⟨st, 0, none⟩) := (hy 3 35 (by omega) (hw 3 (of_decide_eq_true (by kernel_rfl))) rfl).trans ((hv.2 3 (hw 3 (of_decide_eq_true (by kernel_rfl)))).1 _ rfl)
      have HJ := Lib.hid hJ
      clear hw hy hF hcl hJ hv hw' hLo
      refine wpOp_value (v := .pointer (some ⟨st, 0, none⟩)) (w' := w') rfl rfl ?_ ⟨_, rfl, HJ.out.plain rfl (by decide) (by decide) (by decide) (by decide)⟩
      go_simp
    · have e36 : y.tmps[36]?.getD undef = .pointer (some ⟨st, 0, none⟩) := (hy 4 36 (by omega) (hw 4 (of_decide_eq_true (by kernel_rfl))) rfl).trans ((hv.2 4 (hw 4 (of_decide_eq_true (by kernel_rfl)))).1 _ rfl)
      have HJ := Lib.hid hJ
      clear hw hy hF hcl hJ hv hw' hLo
      refine wpOp_value (v := .pointer (some ⟨st, 2, none⟩)) (w' := w') rfl rfl ?_ ⟨_, rfl, HJ.out.plain rfl (by decide) (by decide) (by decide) (by decide)⟩
      go_simp
    · have h16 : L 16 = false := by
        cases hl : L 16 with
        | false => rfl
        | true => exact absurd hl (by intro hl; have k6 := hcl 16 hl 6 (of_decide_eq_true (by kernel_rfl)); rw [k6] at hLo; cases hLo)
      have h19 : L 19 = false := by
        cases hl : L 19 with
        | false => rfl
        | true => rw [hcl 19 hl 16 (of_decide_eq_true (by kernel_rfl))] at h16; cases h16
      obtain rfl := hw' h16 h19
      have e37 : y.tmps[37]?.getD undef = .pointer (some ⟨st, 2, none⟩) := (hy 5 37 (by omega) (hw 5 (of_decide_eq_true (by kernel_rfl))) rfl).trans ((hv.2 5 (hw 5 (of_decide_eq_true (by kernel_rfl)))).1 _ rfl)
      have cs2 := (hv.1.cell (p := ⟨st, 2, none⟩) HGS.out).trans HS2.out
      have HJ := Lib.hid hJ
      clear hw hy hF hcl hJ hv hw' h16 h19 hLo
      refine wpOp_value (v := .map (some mb)) (w' := v) rfl rfl ?_ ⟨_, rfl, HJ.out.plain rfl (by decide) (by decide) (by decide) (by decide)⟩
      go_simp
    · have h16 : L 16 = false := by
        cases hl : L 16 with
        | false => rfl
        | true => exact absurd hl (by intro hl; have k7 := hcl 16 hl 7 (of_decide_eq_true (by kernel_rfl)); rw [k7] at hLo; cases hLo)
      have h19 : L 19 = false := by
        cases hl : L 19 with
        | false => rfl
        | true => rw [hcl 19 hl 16 (of_decide_eq_true (by kernel_rfl))] at h16; cases h16
      obtain rfl := hw' h16 h19
      have e38 : y.tmps[38]?.getD undef = .map (some mb) := (hy 6 38 (by omega) (hw 6 (of_decide_eq_true (by kernel_rfl))) rfl).trans ((hv.2 6 (hw 6 (of_decide_eq_true (by kernel_rfl)))).1 _ rfl)
      have HV := Lib.hid hv
      have HHJ := Lib.hid (And.intro h16 h19)
      clear hw hy hF hcl hJ hv hw' h16 h19 hLo
      refine wpOp_call (f := 52) (args := #[.map (some mb)]) rfl rfl (by go_simp) ((HCL.out _ HV.out.1).mono ?_)
      rintro e w'' ⟨rfl, hm, hb⟩
      exact ⟨_, rfl, _, rfl, BkJ.call (HV.out.put hb ⟨(fun _ h => by cases h), fun _ => ⟨_, rfl, HV.out.1.size, hm⟩, fun h => by cases h⟩) (by simpa using HHJ.out.1) (by simpa using HHJ.out.2)⟩
    · have e3 : y.tmps[3]?.getD undef = .pointer (some ⟨gb, 0, none⟩) := by rw [hF 3 (slBk_far (by kernel_rfl))]; rfl
      have HJ := Lib.hid hJ
      clear hw hy hF hcl hJ hv hw' hLo
      refine wpOp_value (v := .pointer (some ⟨gb, 0, none⟩)) (w' := w') rfl rfl ?_ ⟨_, rfl, HJ.out.plain rfl (by decide) (by decide) (by decide) (by decide)⟩
      go_simp
    · have h16 : L 16 = false := by
        cases hl : L 16 with
        | false => rfl
        | true => exact absurd hl (by intro hl; have k12 := hcl 16 hl 12 (of_decide_eq_true (by kernel_rfl)); have k11 := hcl 12 k12 11 (of_decide_eq_true (by kernel_rfl)); have k10 := hcl 11 k11 10 (of_decide_eq_true (by kernel_rfl)); have k9 := hcl 10 k10 9 (of_decide_eq_true (by kernel_rfl)); rw [k9] at hLo; cases hLo)
      have h19 : L 19 = false := by
        cases hl : L 19 with
        | false => rfl
        | true => rw [hcl 19 hl 16 (of_decide_eq_true (by kernel_rfl))] at h16; cases h16
      obtain rfl := hw' h16 h19
      have e40 : y.tmps[40]?.getD undef = .pointer (some ⟨gb, 0, none⟩) := (hy 8 40 (by omega) (hw 8 (of_decide_eq_true (by kernel_rfl))) rfl).trans ((hv.2 8 (hw 8 (of_decide_eq_true (by kernel_rfl)))).1 _ rfl)
      have cb := (hv.1.cell (p := ⟨gb, 0, none⟩) HGB.out).trans HCB.out
      have HJ := Lib.hid hJ
      clear hw hy hF hcl hJ hv hw' h16 h19 hLo
      refine wpOp_value (v := .pointer (some ⟨st, 0, none⟩)) (w' := v) rfl rfl ?_ ⟨_, rfl, HJ.out.plain rfl (by decide) (by decide) (by decide) (by decide)⟩
      go_simp
    · have e41 : y.tmps[41]?.getD undef = .pointer (some ⟨st, 0, none⟩) := (hy 9 41 (by omega) (hw 9 (of_decide_eq_true (by kernel_rfl))) rfl).trans ((hv.2 9 (hw 9 (of_decide_eq_true (by kernel_rfl)))).1 _ rfl)
      have HJ := Lib.hid hJ
      clear hw hy hF hcl hJ hv hw' hLo
      refine wpOp_value (v := .pointer (some ⟨st, 0, none⟩)) (w' := w') rfl rfl ?_ ⟨_, rfl, HJ.out.plain rfl (by decide) (by decide) (by decide) (by decide)⟩
      go_simp
    · have e42 : y.tmps[42]?.getD undef = .pointer (some ⟨st, 0, none⟩) := (hy 10 42 (by omega) (hw 10 (of_decide_eq_true (by kernel_rfl))) rfl).trans ((hv.2 10 (hw 10 (of_decide_eq_true (by kernel_rfl)))).1 _ rfl)
      have HJ := Lib.hid hJ
      clear hw hy hF hcl hJ hv hw' hLo
      refine wpOp_value (v := .pointer (some ⟨st, 3, none⟩)) (w' := w') rfl rfl ?_ ⟨_, rfl, HJ.out.plain rfl (by decide) (by decide) (by decide) (by decide)⟩
      go_simp
    · have h16 : L 16 = false := by
        cases hl : L 16 with
        | false => rfl
        | true => exact absurd hl (by intro hl; have k12 := hcl 16 hl 12 (of_decide_eq_true (by kernel_rfl)); rw [k12] at hLo; cases hLo)
      have h19 : L 19 = false := by
        cases hl : L 19 with
        | false => rfl
        | true => rw [hcl 19 hl 16 (of_decide_eq_true (by kernel_rfl))] at h16; cases h16
      obtain rfl := hw' h16 h19
      have e43 : y.tmps[43]?.getD undef = .pointer (some ⟨st, 3, none⟩) := (hy 11 43 (by omega) (hw 11 (of_decide_eq_true (by kernel_rfl))) rfl).trans ((hv.2 11 (hw 11 (of_decide_eq_true (by kernel_rfl)))).1 _ rfl)
      have cs3 := (hv.1.cell (p := ⟨st, 3, none⟩) HGS.out).trans HS3.out
      have HJ := Lib.hid hJ
      clear hw hy hF hcl hJ hv hw' h16 h19 hLo
      refine wpOp_value (v := .pointer (some ⟨rb, 0, none⟩)) (w' := v) rfl rfl ?_ ⟨_, rfl, HJ.out.plain rfl (by decide) (by decide) (by decide) (by decide)⟩
      go_simp
    · have h16 : L 16 = false := by
        cases hl : L 16 with
        | false => rfl
        | true => exact absurd hl (by intro hl; have k13 := hcl 16 hl 13 (of_decide_eq_true (by kernel_rfl)); rw [k13] at hLo; cases hLo)
      have h19 : L 19 = false := by
        cases hl : L 19 with
        | false => rfl
        | true => rw [hcl 19 hl 16 (of_decide_eq_true (by kernel_rfl))] at h16; cases h16
      obtain rfl := hw' h16 h19
      have e44 : y.tmps[44]?.getD undef = .pointer (some ⟨rb, 0, none⟩) := (hy 12 44 (by omega) (hw 12 (of_decide_eq_true (by kernel_rfl))) rfl).trans ((hv.2 12 (hw 12 (of_decide_eq_true (by kernel_rfl)))).1 _ rfl)
      have HV := Lib.hid hv
      have HHJ := Lib.hid (And.intro h16 h19)
      clear hw hy hF hcl hJ hv hw' h16 h19 hLo
      refine wpOp_call (f := 46) (args := #[.pointer (some ⟨rb, 0, none⟩)]) rfl rfl (by go_simp) ((HCO.out _ HV.out.1).mono ?_)
      rintro e w'' ⟨rfl, hm, hb⟩
      exact ⟨_, rfl, _, rfl, BkJ.call (HV.out.put hb ⟨(fun _ h => by cases h), (fun h => by cases h), fun _ => ⟨_, rfl, HV.out.1.size, hm⟩⟩) (by simpa using HHJ.out.1) (by simpa using HHJ.out.2)⟩
    · have e32 : y.tmps[32]?.getD undef = .pointer (some ⟨g, 0, none⟩) := (hy 0 32 (by omega) (hw 0 (of_decide_eq_true (by kernel_rfl))) rfl).trans ((hv.2 0 (hw 0 (of_decide_eq_true (by kernel_rfl)))).1 _ rfl)
      have HJ := Lib.hid hJ
      clear hw hy hF hcl hJ hv hw' hLo
      refine wpOp_value (v := .pointer (some ⟨g, 0, none⟩)) (w' := w') rfl rfl ?_ ⟨_, rfl, HJ.out.plain rfl (by decide) (by decide) (by decide) (by decide)⟩
      go_simp
    · have e46 : y.tmps[46]?.getD undef = .pointer (some ⟨g, 0, none⟩) := (hy 14 46 (by omega) (hw 14 (of_decide_eq_true (by kernel_rfl))) rfl).trans ((hv.2 14 (hw 14 (of_decide_eq_true (by kernel_rfl)))).1 _ rfl)
      have HJ := Lib.hid hJ
      clear hw hy hF hcl hJ hv hw' hLo
      refine wpOp_value (v := .pointer (some ⟨g, 1, none⟩)) (w' := w') rfl rfl ?_ ⟨_, rfl, HJ.out.plain rfl (by decide) (by decide) (by decide) (by decide)⟩
      go_simp
    · have h16 : L 16 = false := hLo
      have h19 : L 19 = false := by
        cases hl : L 19 with
        | false => rfl
        | true => rw [hcl 19 hl 16 (of_decide_eq_true (by kernel_rfl))] at h16; cases h16
      obtain rfl := hw' h16 h19
      have e47 : y.tmps[47]?.getD undef = .pointer (some ⟨g, 1, none⟩) := (hy 15 47 (by omega) (hw 15 (of_decide_eq_true (by kernel_rfl))) rfl).trans ((hv.2 15 (hw 15 (of_decide_eq_true (by kernel_rfl)))).1 _ rfl)
      obtain ⟨q7, ef7, hq7, -⟩ := (hv.2 7 (hw 7 (of_decide_eq_true (by kernel_rfl)))).2.1 rfl
      have e39 : y.tmps[39]?.getD undef = .map (some q7) := (hy 7 39 (by omega) (hw 7 (of_decide_eq_true (by kernel_rfl))) rfl).trans ef7
      have hB := HBL.out.below hv.1 HGG.out
      have c1 := hB.cell 1
      have q1 := hB.frozen 1
      simp [deskC] at c1
      have HF7 := Lib.hid ef7
      have HJJ := Lib.hid (BkJ.st1 (u := undef) hJ rfl h16 h19)
      clear hw hy hF hcl hJ hv hw' h16 h19 hLo hB ef7
      rw [HF7.out] at HJJ
      refine wpOp_skip (w' := v.setCell ⟨g, 1, none⟩ (.map (some q7))) rfl rfl ?_ ⟨_, rfl, HJJ.out⟩
      go_simp
    · have e33 : y.tmps[33]?.getD undef = .pointer (some ⟨g, 0, none⟩) := (hy 1 33 (by omega) (hw 1 (of_decide_eq_true (by kernel_rfl))) rfl).trans ((hv.2 1 (hw 1 (of_decide_eq_true (by kernel_rfl)))).1 _ rfl)
      have HJ := Lib.hid hJ
      clear hw hy hF hcl hJ hv hw' hLo
      refine wpOp_value (v := .pointer (some ⟨g, 0, none⟩)) (w' := w') rfl rfl ?_ ⟨_, rfl, HJ.out.plain rfl (by decide) (by decide) (by decide) (by decide)⟩
      go_simp
    · have e48 : y.tmps[48]?.getD undef = .pointer (some ⟨g, 0, none⟩) := (hy 17 48 (by omega) (hw 17 (of_decide_eq_true (by kernel_rfl))) rfl).trans ((hv.2 17 (hw 17 (of_decide_eq_true (by kernel_rfl)))).1 _ rfl)
      have HJ := Lib.hid hJ
      clear hw hy hF hcl hJ hv hw' hLo
      refine wpOp_value (v := .pointer (some ⟨g, 2, none⟩)) (w' := w') rfl rfl ?_ ⟨_, rfl, HJ.out.plain rfl (by decide) (by decide) (by decide) (by decide)⟩
      go_simp
    · have h16 : L 16 = true := hw 16 (of_decide_eq_true (by kernel_rfl))
      have e49 : y.tmps[49]?.getD undef = .pointer (some ⟨g, 2, none⟩) := (hy 18 49 (by omega) (hw 18 (of_decide_eq_true (by kernel_rfl))) rfl).trans ((hv.2 18 (hw 18 (of_decide_eq_true (by kernel_rfl)))).1 _ rfl)
      obtain ⟨q13, ef13, hq13, -⟩ := (hv.2 13 (hw 13 (of_decide_eq_true (by kernel_rfl)))).2.2 rfl
      have e45 : y.tmps[45]?.getD undef = .pointer (some ⟨q13, 0, none⟩) := (hy 13 45 (by omega) (hw 13 (of_decide_eq_true (by kernel_rfl))) rfl).trans ef13
      obtain ⟨q7, ef7, -, -⟩ := (hv.2 7 (hcl 16 h16 7 (of_decide_eq_true (by kernel_rfl)))).2.1 rfl
      have hw16 := hw16' h16 hLo
      rw [ef7] at hw16
      have hB := (HBL.out.below hv.1 HGG.out).put 1 (.map (some q7))
      rw [← hw16] at hB
      have c2 := hB.cell 2
      have q2 := hB.frozen 2
      simp [deskC] at c2
      have HJJ := Lib.hid (BkJ.st2 (u := undef) hJ rfl h16 hLo)
      rw [ef13] at HJJ
      clear hw hy hF hcl hJ hv hw' hw16' h16 hLo hB ef13 ef7 hw16
      refine wpOp_skip (w' := w'.setCell ⟨g, 2, none⟩ (.pointer (some ⟨q13, 0, none⟩))) rfl rfl ?_ ⟨_, rfl, HJJ.out⟩
      go_simp
  case hrest =>
    intro L f w' hL hJ
    obtain ⟨v, hv, hw1⟩ := hJ
    obtain ⟨q7, ef7, hq7, hm7⟩ := (hv.2 7 (hL 7 (by omega))).2.1 rfl
    obtain ⟨q13, ef13, hq13, hr13⟩ := (hv.2 13 (hL 13 (by omega))).2.2 rfl
    have hwv : w' = (v.setCell ⟨g, 1, none⟩ (.map (some q7))).setCell ⟨g, 2, none⟩ (.pointer (some ⟨q13, 0, none⟩)) := by rw [hw1]; unfold bkW; rw [hL 19 (by omega), if_pos rfl, ef7, ef13]
    have hne := map_not_cells hm7 hr13
    have hsz := HSW.out
    have hlt := HLT.out
    have hVv : DeskIs v g gw gm gr gd m O K := HV.out.kept (fun b hb => hv.1.block b (by have := hlt b hb; omega))
    obtain ⟨a1, a2, a3, a4, a5, a6, a7, a8, a9, a10⟩ := hVv.nodup
    have l1 := hlt g (by simp)
    have l2 := hlt gw (by simp)
    have hkW : Keep [g] v w' := by rw [hwv]; exact ((Keep.refl _ _).put (.inl (by simp)) 1 _).put (.inl (by simp)) 2 _
    rw [HN1.out] at hr13
    have hD : DeskIs w' g gw q7 q13 gd m O (backK K F H) := by
      refine ⟨?_, hVv.wal.keep hkW (by simp; exact fun e => a1 e.symm), hVv.disk.far hkW (fun b hb => by simp; rintro rfl; exact a7 hb), hm7.keep hkW (by simp; omega), hr13.keep hkW (by simp; omega), ?_⟩
      · rw [hwv]
        have := (hVv.blk.put 1 (.map (some q7))).put 2 (.pointer (some ⟨q13, 0, none⟩))
        simpa [deskC, backK] using this
      · have hO := hVv.apart
        simp only [List.nodup_cons, List.mem_cons, not_or] at hO ⊢
        exact ⟨⟨a1, by omega, by omega, a7⟩, ⟨by omega, by omega, a8⟩, ⟨hne, fun e => by have := hlt q7 (by simp [e]); omega⟩, fun e => by have := hlt q13 (by simp [e]); omega, hO.2.2.2.2⟩
    have hP : DTurns (g :: gw :: gm :: gr :: O) g gd m (backK K F H) w w' := by
      refine ⟨_, ⟨gw, q7, q13, O, rfl, hD⟩, fun b hb => ?_, (Keep.of_below (HbW.out.trans (hv.1.mono HbW.out.size))).trans' (hkW.mono (fun b hb => .inl (by simp at hb; subst hb; simp)))⟩
      simp only [List.mem_cons] at hb ⊢
      rcases hb with h | h | h | h | h
      · exact .inl (.inl h)
      · exact .inl (.inr (.inl h))
      · exact .inr (by omega)
      · exact .inr (by omega)
      · exact .inl (.inr (.inr (.inr (.inr h))))
    exact ret_none rfl rfl ⟨rfl, hP⟩
end
theorem least_two : Least [0, 1] 2 := ⟨fun i hi => by
  rcases (show i = 0 ∨ i = 1 by omega) with rfl | rfl <;> simp, by simp⟩
structure Fresh11 (N : Nat) (K : KD) (h : List ByteArray) : Prop where
  run : Run11 N K h 2
  H : K.H = [0, 1]
  F : K.F = fun _ => .empty
  pend : pendT K = []
  kept : K.kept = roomS K
  home : h = (List.replicate (N - 111) (zeroB 256)).set 1 (bs (roomT (N - 111) [0, 1]))
theorem fresh_desk {N : Nat} (hN : 140 ≤ N ∧ N ≤ 400) : syncE (fmtK (DS.fresh N (zeroB 256)) 0) = 0 ∧ ∃ h, Fresh11 N (syncK (fmtK (DS.fresh N (zeroB 256)) 0)) h := by
  have hs : Held N 0 (List.replicate (N - 111) (zeroB 256)) (DS.fresh N (zeroB 256)).now := headQ_zero N hN
  have r := fmt_start (c := 1) hs (s0 := List.replicate N (zeroB 256)) (s := List.replicate N (zeroB 256)) (d := []) (n := 0) rfl (DS.Ok.fresh _ _) (by omega) (by omega) (by simp)
  have hp := fmt_pend hs
  obtain ⟨a1, a2, a3, a4, a5, a6, a7⟩ := r.sync (by omega) (by rw [pendL_length, hp]; decide)
  refine ⟨a1, _, a2, by rw [a4]; rfl, a6, a3, ?_, ?_⟩
  · rw [a5]
    unfold roomS
    rw [a4, a2.ok.len, r.ok.len]
  have e1 : pendL (fmtK (DS.fresh N (zeroB 256)) 0) = [(0, zeroB 256), (1, bs (roomT (N - 111) [0, 1]))] := by
    unfold pendL
    rw [hp]
    have g0 : gF (fmtK (DS.fresh N (zeroB 256)) 0) 0 = zeroB 256 := by unfold gF; rw [if_neg (by decide)]; exact updF_same (fun _ => .empty) 0 (zeroB 256)
    have g1 : gF (fmtK (DS.fresh N (zeroB 256)) 0) 1 = bs (roomT (N - 111) [0, 1]) := by
      unfold gF
      rw [if_pos rfl]
      unfold roomS
      have : (fmtK (DS.fresh N (zeroB 256)) 0).S.now.length = N := by show (List.replicate N (zeroB 256)).length = N; simp
      rw [this]
      rfl
    simp [g0, g1]
  rw [e1]
  clear e1 a1 a2 a3 a4 a5 a6 a7 hp r hs
  generalize zeroB 256 = z
  show ((List.replicate (N - 111) z).set 0 z).set 1 _ = _
  congr 1
  apply List.ext_getElem?
  intro i
  by_cases hi : i = 0
  · subst hi
    rw [List.getElem?_set_self (by simp; omega), List.getElem?_replicate, if_pos (by omega)]
  · rw [List.getElem?_set_ne (fun e => hi e.symm)]
theorem make_any {N : Nat} (hN : 140 ≤ N ∧ N ≤ 400) (w0 w : World) (hb : Below w0.heap.size w0 w) {gd : Nat} {O : List Nat} (hd : DiskAt w O gd (DS.fresh N (zeroB 256))) (hO : ∀ b ∈ O, w0.heap.size ≤ b) :
    Calls Tryz.prog 7 #[.pointer (some ⟨gd, 0, none⟩)] w fun e w' => ∃ g h, e = .returned (.tuple #[.pointer (some ⟨g, 0, none⟩), .int .i64 0]) ∧ DSt w0 w' g gd 1 (syncK (fmtK (DS.fresh N (zeroB 256)) 0)) ∧ Fresh11 N (syncK (fmtK (DS.fresh N (zeroB 256)) 0)) h := by
  have hs : Held N 0 (List.replicate (N - 111) (zeroB 256)) (DS.fresh N (zeroB 256)).now := headQ_zero N hN
  obtain ⟨hE, h, hF⟩ := fresh_desk hN
  refine (kformat_go hs (DS.Ok.fresh _ _) (by show (0 : Nat) ≤ 100; omega) (by show (0 : Nat) < _; omega) (by show (0 : Nat) < _; omega) hE (kany_ok (open_held hd rfl hs))).mono ?_
  rintro e w' ⟨g, rfl, ho⟩
  exact ⟨g, h, rfl, DSt.of_open hO hb ho, hF⟩
theorem pend_new {N : Nat} {K : KD} {h : List ByteArray} (hF : Fresh11 N K h) {x : ByteArray} (hx : x.size = 256) (hN : 114 ≤ N ∧ N ≤ 400): pendT (newK K 2 x) = [1, 2] := by
  have r := hF.run.new (k := 2) (by rw [hF.H]; exact least_two) (by omega) hx
  have hl := r.ok.len
  refine strict_ext _ _ (pendT_rise _) (by simp) fun t => ?_
  rw [pendT_mem]
  simp only [List.mem_cons, List.not_mem_nil, or_false]
  constructor
  · rintro ⟨_, h2⟩
    unfold dirtyP at h2
    split at h2
    · rename_i e; exact .inl e
    · have h3 := of_decide_eq_true h2
      by_cases e : t = 2
      · exact .inr e
      · refine absurd ?_ h3
        show updF K.F ((2 : Nat) : Int) x t = .empty
        rw [updF_other _ _ (by simpa using e), hF.F]
  · rintro (rfl | rfl)
    · refine ⟨by rw [hl]; omega, ?_⟩
      unfold dirtyP
      rw [if_pos rfl]
      refine decide_eq_true (fun e => ?_)
      have e2 : roomS (newK K 2 x) = roomS K := e.trans hF.kept
      unfold roomS at e2
      have e3 := roomT_inj r.hok hF.run.hok (by omega) (by omega) (by have := bs_inj e2; rw [hl, hF.run.ok.len] at this; exact this)
      rw [show (newK K 2 x).H = putL 2 K.H from rfl, hF.H] at e3
      exact absurd e3 (by decide)
    · refine ⟨by rw [hl]; omega, ?_⟩
      unfold dirtyP
      rw [if_neg (by decide)]
      refine decide_eq_true (fun e => ?_)
      have e2 : updF K.F ((2 : Nat) : Int) x 2 = .empty := e
      rw [show (2 : Int) = ((2 : Nat) : Int) from rfl, updF_same] at e2
      rw [e2] at hx
      exact absurd hx (by decide)
set_option maxRecDepth 100000 in
set_option maxHeartbeats 8000000 in
theorem alive11_any (w : World) : Calls Tryz.prog 5 #[] w fun e w' => e = .returned (.bool true) ∧ Below w.heap.size w w' := by
  obtain ⟨X, hX⟩ : ∃ X, X = fillB ⟨#[120]⟩ := ⟨_, rfl⟩
  have HXS : Hid (X.size = 256) := Lib.hid (by rw [hX]; exact fillB_size _)
  have HFI : Hid (∀ w1, Calls Tryz.prog 10 #[.string ⟨#[120]⟩] w1 fun e w' => e = .returned (.string X) ∧ Below w1.heap.size w1 w') := Lib.hid (fun w1 => by rw [hX]; exact fill_any _ w1 (by decide))
  clear hX
  have HN := Lib.hid (dnew_yes 150 150 w rfl (by omega) (by omega))
  have HMK : Hid (∀ (w1 : World) (gd : Nat) (O : List Nat), DiskAt w1 O gd (DS.fresh 150 (zeroB 256)) → (∀ b ∈ O, w.heap.size ≤ b) → Below w.heap.size w w1 → Calls Tryz.prog 7 #[.pointer (some ⟨gd, 0, none⟩)] w1 fun e w' => ∃ g K h, e = .returned (.tuple #[.pointer (some ⟨g, 0, none⟩), .int .i64 0]) ∧ DSt w w' g gd 1 K ∧ Fresh11 150 K h) := Lib.hid (fun w1 gd O hd hO hb => (make_any (by omega) w w1 hb hd hO).mono (fun e w' ⟨g, h, he, hs, hf⟩ => ⟨g, _, h, he, hs, hf⟩))
  go_enter Tryz.func5, Tryz.ntmps5
  go_wp2_with fail
  refine HN.out.mono ?_
  rintro e w1 ⟨gd, O, rfl, hd, hO, hb1⟩
  have HF1 := Lib.hid (HMK.out w1 gd O hd hO hb1)
  clear hd hO hb1 HMK HN
  go_wp2_with fail
  refine HF1.out.mono ?_
  rintro e w2 ⟨g, K, h, rfl, hs2, hf⟩
  have HS2 := Lib.hid hs2
  have HF := Lib.hid hf
  obtain ⟨gw, c0, -, -, -⟩ := hs2.wal
  clear hs2 hf HF1
  go_wp2_with fail
  refine (HFI.out w2).mono ?_
  rintro e w3 ⟨rfl, hb3⟩
  have HS3 := Lib.hid (HS2.out.below hb3)
  clear hb3 HS2 HFI c0
  have HNW := Lib.hid (dst_new HS3.out HF.out.run (by omega) (k := 2) (by rw [HF.out.H]; exact least_two) (by omega) HXS.out)
  go_wp2_with fail
  refine HNW.out.mono ?_
  rintro e w4 ⟨rfl, hs4⟩
  have HS4 := Lib.hid hs4
  have HR4 : Hid (Run11 150 (newK K 2 X) h 2) := Lib.hid (HF.out.run.new (k := 2) (by rw [HF.out.H]; exact least_two) (by omega) HXS.out)
  have HP4 := Lib.hid (pend_new HF.out HXS.out (by omega))
  have HG4 : Hid (homeG (newK K 2 X) h 2 = X) := Lib.hid (by
    have e : (newK K 2 X).F ((2 : Nat) : Int) = X := updF_same K.F ((2 : Nat) : Int) X
    unfold homeG
    rw [e, if_pos (size_empty HXS.out)])
  have HGT : Hid (Calls Tryz.prog 33 #[.pointer (some ⟨g, 0, none⟩), .int .i64 2] w4 fun e w' => e = .returned (.tuple #[.string X, .int .i64 0]) ∧ Below w4.heap.size w4 w') := Lib.hid (by have := dst_get HS4.out HR4.out (t := 2) (by omega); rw [HG4.out] at this; exact this)
  obtain ⟨K4, hK4⟩ : ∃ K4, K4 = newK K 2 X := ⟨_, rfl⟩
  rw [← hK4] at HS4 HR4 HP4
  clear hs4 HNW HS3 HG4 hK4
  go_wp2_with fail
  refine HGT.out.mono ?_
  rintro e w5 ⟨rfl, hb5⟩
  have HS5 := Lib.hid (HS4.out.below hb5)
  have HD5 := Lib.hid (dst_dirty HS5.out HR4.out (by omega))
  rw [HP4.out] at HD5
  clear hb5 HGT HS4
  go_wp2_with fail
  refine HD5.out.mono ?_
  rintro e w6 ⟨A, c, rfl, hrow, hb6⟩
  have HS6 := Lib.hid (HS5.out.below hb6)
  obtain ⟨p, hp⟩ : ∃ p, A = some ⟨p, 0, none⟩ := by
    rcases hrow.2 with ⟨h0, _⟩ | ⟨g, cap, cur, hv, _⟩
    · injection h0 with _ e _; simp at e
    · injection hv with e _ _; exact ⟨g, e⟩
  subst hp
  have d0 : w6.cell? ⟨p, 0, none⟩ = some (.int .i64 1) := row_cell hrow (i := 0) rfl
  have d1 : w6.cell? ⟨p, 1, none⟩ = some (.int .i64 2) := row_cell hrow (i := 1) rfl
  have HSY := Lib.hid (dst_sync HS6.out HR4.out (by omega) (by omega))
  have HRS := Lib.hid (HR4.out.sync (by omega) (by rw [pendL_length, HP4.out]; decide))
  rw [HRS.out.1] at HSY
  clear hrow hb6 HD5 HS5
  go_wp2_with (go_at_call 23; refine HSY.out.mono ?_; rintro e w7 ⟨rfl, hs7⟩; have HS7 := Lib.hid hs7; obtain ⟨gw7, c7, -, -, -⟩ := hs7.wal; clear hs7)
  have HR7 := Lib.hid HRS.out.2.1
  have HSZ : Hid (Calls Tryz.prog 35 #[.pointer (some ⟨gw7, 0, none⟩)] w7 fun e w' => e = .returned (.int .i64 39) ∧ w7 = w') := Lib.hid (dst_size HS7.out HR7.out c7)
  have HD7 := Lib.hid (dst_dirty HS7.out HR7.out (by omega))
  rw [HRS.out.2.2.1] at HD7
  clear HRS HSY c7
  refine HSZ.out.mono ?_
  rintro e w8 ⟨rfl, rfl⟩
  go_wp2_with fail
  refine HD7.out.mono ?_
  rintro e w9 ⟨A, c', rfl, -, hb9⟩
  have HB9 : Hid (Below w.heap.size w w9) := Lib.hid (HS7.out.at0.trans (hb9.mono HS7.out.at0.size))
  clear hb9 HD7
  go_wp2_with fail
  go_ret
  exact ⟨rfl, HB9.out⟩
open Go.ChangeShapes Go.WideShapes Go.ChangeAt Go.RowKit
open Go.WideMaps Go.WideElems
theorem cellsIntV : Tryz.prog.cellsOf 3 = 1 := by kernel_rfl
structure IntsV (w : World) (A : Option Addr) (m c : Nat) (l : List Int) : Prop where
  len : l.length = m
  lie : Ints w w.heap.size A l
  nil_ : A = none → m = 0 ∧ c = 0
  few : m ≤ 9223372036854775807
end Go.Proofs.YtiagofgcinlnhaaGreatDoor
