/-
  The law's sync: what is on the desk is committed. No statement is proved here.
-/
import Derived.Test.YtiagofgcinlnhaaGreatDoorDeskVals
import Derived.Test.YtiagofgcinlnhaaGreatDoorBookAt
namespace Go.Proofs.YtiagofgcinlnhaaGreatDoor
open Go.RowKit
theorem txtV_set (l : List ByteArray) (j : Nat) (x : ByteArray) : txtV (l.set j x) = (txtV l).set j (.string x) := by unfold txtV; exact List.map_set
section
variable {w : World} {B x n c g : Nat} {vh vo vu vw : Value} {s : DocS}
theorem DocIs.home_off (h : DocIs w B x vh vo vu vw s) {b : Nat} (hb : vh.ownBlock = some b) : b ≠ x ∧ vo.ownBlock ≠ some b ∧ vu.ownBlock ≠ some b ∧ vw.ownBlock ≠ some b :=
  ⟨fun e => row_off h.home h.blk (by decide) (by rw [← e]; exact hb), h.apart b hb, row_apart h.home h.used (by decide) hb, row_apart h.home h.was (by decide) hb⟩
theorem DocIs.on_off (h : DocIs w B x vh vo vu vw s) {b : Nat} (hb : vo.ownBlock = some b) : b ≠ x ∧ vh.ownBlock ≠ some b ∧ vu.ownBlock ≠ some b ∧ vw.ownBlock ≠ some b :=
  ⟨fun e => row_off h.on h.blk (by decide) (by rw [← e]; exact hb), fun e => h.apart b e hb, row_apart h.on h.used (by decide) hb, row_apart h.on h.was (by decide) hb⟩
theorem DocIs.putHome (h : DocIs w B x (.slice (some ⟨g, 0, none⟩) n c) vo vu vw s) (hn : n = s.home.length) (j : Nat) (t : ByteArray) : DocIs (w.setCell ⟨g, j, none⟩ (.string t)) B x (.slice (some ⟨g, 0, none⟩) n c) vo vu vw { s with home := s.home.set j t } := by
  obtain ⟨a1, a2, a3, a4⟩ := h.home_off (b := g) rfl
  have hh := h.home
  rw [← hn] at hh
  refine ⟨(Below.heap_setCell _ _ _ _ (fun e => a1 e.symm)).trans h.blk, h.low, ?_, krow_far h.on a2 _, krow_far h.used a3 _, krow_far h.was a4 _, h.apart, h.apart2⟩
  simp only [List.length_set]
  rw [txtV_set, ← hn]
  exact krow_put hh _
theorem DocIs.putOn (h : DocIs w B x vh (.slice (some ⟨g, 0, none⟩) n c) vu vw s) (hn : n = s.on.length) (j : Nat) (t : ByteArray) : DocIs (w.setCell ⟨g, j, none⟩ (.string t)) B x vh (.slice (some ⟨g, 0, none⟩) n c) vu vw { s with on := s.on.set j t } := by
  obtain ⟨a1, a2, a3, a4⟩ := h.on_off (b := g) rfl
  have hh := h.on
  rw [← hn] at hh
  refine ⟨(Below.heap_setCell _ _ _ _ (fun e => a1 e.symm)).trans h.blk, h.low, krow_far h.home a2 _, ?_, krow_far h.used a3 _, krow_far h.was a4 _, h.apart, h.apart2⟩
  simp only [List.length_set]
  rw [txtV_set, ← hn]
  exact krow_put hh _
theorem DocIs.off_rows (h : DocIs w B x vh vo vu vw s) : vh.ownBlock ≠ some x ∧ vo.ownBlock ≠ some x ∧ vu.ownBlock ≠ some x ∧ vw.ownBlock ≠ some x :=
  ⟨fun e => row_off h.home h.blk (by decide) e, fun e => row_off h.on h.blk (by decide) e, fun e => row_off h.used h.blk (by decide) e, fun e => row_off h.was h.blk (by decide) e⟩
theorem DocIs.putWas (h : DocIs w B x vh vo vu vw s) {v : Value} {l : List Int} (hr : w.ownsRow B 3 1 v l.length (intV l)) (ha : ∀ b, vu.ownBlock = some b → v.ownBlock ≠ some b) : DocIs (w.setCell ⟨x, 3, none⟩ v) B x vh vo vu v { s with was := l } := by
  obtain ⟨a1, a2, a3, a4⟩ := h.off_rows
  exact ⟨h.blk.put 3 v, h.low, krow_far h.home a1 _, krow_far h.on a2 _, krow_far h.used a3 _, krow_far hr (fun e => row_off hr h.blk (by decide) e) _, h.apart, ha⟩
theorem DocIs.putUsed (h : DocIs w B x vh vo vu vw s) {v : Value} {l : List Int} (hr : w.ownsRow B 3 1 v l.length (intV l)) (ha : ∀ b, v.ownBlock = some b → vw.ownBlock ≠ some b) : DocIs (w.setCell ⟨x, 2, none⟩ v) B x vh vo v vw { s with used := l } := by
  obtain ⟨a1, a2, a3, a4⟩ := h.off_rows
  exact ⟨h.blk.put 2 v, h.low, krow_far h.home a1 _, krow_far h.on a2 _, krow_far hr (fun e => row_off hr h.blk (by decide) e) _, krow_far h.was a4 _, h.apart, ha⟩
theorem DocIs.below' {B' : Nat} (h : DocIs w B x vh vo vu vw s) (hB : B' ≤ B) : DocIs w B' x vh vo vu vw s :=
  ⟨h.blk, Nat.le_trans hB h.low, row_lower h.home hB, row_lower h.on hB, row_lower h.used hB, row_lower h.was hB, h.apart, h.apart2⟩
end
def layTo (h o : List ByteArray) : Nat → List ByteArray × List ByteArray
  | 0 => (h, o)
  | j + 1 => if o.getD j .empty ≠ .empty then ((layTo h o j).1.set j (o.getD j .empty), (layTo h o j).2.set j .empty) else layTo h o j
theorem layTo_len (h o : List ByteArray) (j : Nat) : (layTo h o j).1.length = h.length ∧ (layTo h o j).2.length = o.length := by
  induction j with
  | zero => exact ⟨rfl, rfl⟩
  | succ j ih =>
    unfold layTo
    split
    · simp only [List.length_set]; exact ih
    · exact ih
theorem layTo_on (h o : List ByteArray) (j : Nat) (i : Nat) (hi : j ≤ i) : (layTo h o j).2[i]? = o[i]? := by
  induction j with
  | zero => rfl
  | succ j ih =>
    unfold layTo
    split
    · simp only
      rw [List.getElem?_set_ne (by omega)]
      exact ih (by omega)
    · exact ih (by omega)
def syncD (s : DocS) : DocS := ⟨(layTo s.home s.on s.on.length).1.set 1 (bs (roomT s.home.length s.used)), (layTo s.home s.on s.on.length).2, s.used, s.used⟩
def slY : Nat → Option Nat
  | 0 => some 24
  | 1 => some 25
  | 2 => some 26
  | 3 => some 27
  | 4 => some 28
  | 5 => some 29
  | 6 => some 30
  | 7 => some 31
  | 8 => some 32
  | 9 => some 33
  | 10 => some 34
  | 11 => some 35
  | 12 => some 36
  | 13 => some 37
  | 14 => some 38
  | 15 => some 39
  | 16 => some 40
  | 17 => some 41
  | 18 => none
  | 19 => some 42
  | 20 => none
  | _ => none
theorem slY_far {s : Nat} (hs : s < 24) : ∀ i, i < 21 → slY i ≠ some s := by
  intro i hi e
  rcases (show i = 0 ∨ i = 1 ∨ i = 2 ∨ i = 3 ∨ i = 4 ∨ i = 5 ∨ i = 6 ∨ i = 7 ∨ i = 8 ∨ i = 9 ∨ i = 10 ∨ i = 11 ∨ i = 12 ∨ i = 13 ∨ i = 14 ∨ i = 15 ∨ i = 16 ∨ i = 17 ∨ i = 18 ∨ i = 19 ∨ i = 20 by omega) with rfl | rfl | rfl | rfl | rfl | rfl | rfl | rfl | rfl | rfl | rfl | rfl | rfl | rfl | rfl | rfl | rfl | rfl | rfl | rfl | rfl <;> simp [slY] at e <;> omega
set_option maxRecDepth 100000 in
set_option maxHeartbeats 8000000 in
theorem dsync11_any {B x n : Nat} {s : DocS} {w : World} (h : DocAt w B x s) (hh : s.home.length = n) (ho : s.on.length = n) (hn : 2 ≤ n ∧ n ≤ 1900) (hu : HOk n s.used) (hul : s.used.length ≤ 100000) (hwl : s.was.length ≤ 100000) :
    Calls Tryz.prog 9 #[.pointer (some ⟨x, 0, none⟩)] w fun e w' => ∃ y, e = .returned (.pointer (some ⟨y, 0, none⟩)) ∧ DocAt w' w.heap.size y (syncD s) ∧ Below w.heap.size w w' := by
  obtain ⟨j0, hj, hy0, hy1, hy2⟩ := info_parts hints_info
  have HCP := Lib.hid (dcopy_any h (by omega))
  have HHL := Lib.hid hh
  have HOL := Lib.hid ho
  have HU := Lib.hid hu
  have HUL := Lib.hid hul
  have HJ0 := Lib.hid hj
  clear h hh ho hu hj
  go_enter Tryz.func9, Tryz.ntmps9
  go_wp2_with fail
  refine HCP.out.mono ?_
  rintro e w1 ⟨y, rfl, ⟨vh, vo, vu, vw, hd⟩, hb1⟩
  obtain ⟨ph, ch, hv0, hp0⟩ := row_slice' hd.home
  obtain ⟨po, co, hv1, hp1⟩ := row_slice' hd.on
  rw [HHL.out] at hv0 hp0
  rw [HOL.out] at hv1 hp1
  obtain ⟨gh, rfl⟩ : ∃ g, ph = some ⟨g, 0, none⟩ := by
    obtain ⟨p', c', e1, -, -, k0, ka⟩ := krow_form hd.home
    rw [hv0] at e1
    injection e1 with e1 _ _
    subst e1
    rcases ph with _ | q
    · exact absurd (hp0 rfl) (by omega)
    · exact ⟨q.block, by rw [← ka q rfl]⟩
  obtain ⟨go, rfl⟩ : ∃ g, po = some ⟨g, 0, none⟩ := by
    obtain ⟨p', c', e1, -, -, k0, ka⟩ := krow_form hd.on
    rw [hv1] at e1
    injection e1 with e1 _ _
    subst e1
    rcases po with _ | q
    · exact absurd (hp1 rfl) (by omega)
    · exact ⟨q.block, by rw [← ka q rfl]⟩
  subst hv0 hv1
  obtain ⟨pu, cu, hv2, -⟩ := row_slice' hd.used
  subst hv2
  have HD1 := Lib.hid hd
  have HB1 := Lib.hid hb1
  have hnI : (n : Int) ≤ 1900 := by omega
  clear hd hb1 HCP hp0 hp1
  go_wp2_with fail
  go_loopw [4] (fun i wr => ∃ j : Nat, j ≤ n ∧ i = .int .i64 j ∧ DocIs wr w.heap.size y (.slice (some ⟨gh, 0, none⟩) n ch) (.slice (some ⟨go, 0, none⟩) n co) (.slice pu s.used.length cu) vw ⟨(layTo s.home s.on j).1, (layTo s.home s.on j).2, s.used, s.was⟩ ∧ Below w.heap.size w wr) (fun i _ => n - (intOf i).toNat)
  case atStart => exact ⟨0, Nat.zero_le _, rfl, HD1.out, HB1.out⟩
  case round =>
    obtain ⟨j, hj, rfl, hd, hbr⟩ := hrel
    have HD := Lib.hid hd
    have HBR := Lib.hid hbr
    have c0 := hd.blk.cell 0
    have c1 := hd.blk.cell 1
    simp at c0 c1
    clear hd hbr HD1 HB1
    by_cases hlt : j < n
    · obtain ⟨bx, hbx⟩ : ∃ bx, s.on[j]? = some bx := ⟨s.on[j]'(by rw [HOL.out]; exact hlt), List.getElem?_eq_getElem _⟩
      have hbx2 : (layTo s.home s.on j).2[j]? = some bx := by rw [layTo_on _ _ _ _ (Nat.le_refl _)]; exact hbx
      have hgd : s.on.getD j .empty = bx := by rw [List.getD_eq_getElem?_getD, hbx]; rfl
      have hcx : wr.cell? ⟨go, j, none⟩ = some (.string bx) := krow_cell (by have := HD.out.on; rwa [(layTo_len _ _ _).2, HOL.out] at this) (by unfold txtV; rw [List.getElem?_map, hbx2]; rfl)
      have hjI : (j : Int) < (n : Int) := by omega
      clear hbx hbx2
      by_cases hb : bx = .empty
      · subst hb
        have HL : Hid (layTo s.home s.on (j + 1) = layTo s.home s.on j) := Lib.hid (by
          show (if _ then _ else _) = _
          rw [if_neg (by rw [hgd]; simp)])
        clear hgd
        go_wp2_with fail
        go_roundw
        case rel => exact ⟨j + 1, by omega, by go_num, by rw [HL.out]; exact HD.out, HBR.out⟩
        case measure => simp [intOf]; omega
      · have HL : Hid (layTo s.home s.on (j + 1) = ((layTo s.home s.on j).1.set j bx, (layTo s.home s.on j).2.set j .empty)) := Lib.hid (by
          show (if _ then _ else _) = _
          rw [if_pos (by rw [hgd]; exact hb), hgd])
        have hne := ba_empty hb
        have hne1 : bx.toList.isEmpty = false := by cases h : bx.toList with | nil => exact absurd h hne | cons _ _ => rfl
        obtain ⟨hx, hhx⟩ : ∃ hx, (layTo s.home s.on j).1[j]? = some hx := ⟨(layTo s.home s.on j).1[j]'(by rw [(layTo_len _ _ _).1, HHL.out]; exact hlt), List.getElem?_eq_getElem _⟩
        have hdh := HD.out.home
        have hdo := HD.out.on
        rw [(layTo_len _ _ _).1, HHL.out] at hdh
        rw [(layTo_len _ _ _).2, HOL.out] at hdo
        have hch : wr.cell? ⟨gh, j, none⟩ = some (.string hx) := krow_cell hdh (by unfold txtV; rw [List.getElem?_map, hhx]; rfl)
        have hfh : wr.frozen? ⟨gh, j, none⟩ = false := krow_frozen hdh _
        have hfo : wr.frozen? ⟨go, j, none⟩ = false := krow_frozen hdo _
        obtain ⟨u0, hu0⟩ : ∃ u, u = wr.drew := ⟨_, rfl⟩
        obtain ⟨u1, hu1⟩ : ∃ u, u = u0.setCell ⟨gh, j, none⟩ (.string bx) := ⟨_, rfl⟩
        obtain ⟨u2, hu2⟩ : ∃ u, u = u1.setCell ⟨go, j, none⟩ (.string .empty) := ⟨_, rfl⟩
        have hd0 : DocIs u0 w.heap.size y (.slice (some ⟨gh, 0, none⟩) n ch) (.slice (some ⟨go, 0, none⟩) n co) (.slice pu s.used.length cu) vw ⟨(layTo s.home s.on j).1, (layTo s.home s.on j).2, s.used, s.was⟩ := by rw [hu0]; exact HD.out.below (Below.refl _ _).drew
        have hd1 : DocIs u1 w.heap.size y (.slice (some ⟨gh, 0, none⟩) n ch) (.slice (some ⟨go, 0, none⟩) n co) (.slice pu s.used.length cu) vw ⟨(layTo s.home s.on j).1.set j bx, (layTo s.home s.on j).2, s.used, s.was⟩ := by
          rw [hu1]
          exact hd0.putHome (by simp only; rw [(layTo_len _ _ _).1, HHL.out]) j bx
        have hd2 : DocIs u2 w.heap.size y (.slice (some ⟨gh, 0, none⟩) n ch) (.slice (some ⟨go, 0, none⟩) n co) (.slice pu s.used.length cu) vw ⟨(layTo s.home s.on j).1.set j bx, (layTo s.home s.on j).2.set j .empty, s.used, s.was⟩ := by
          rw [hu2]
          exact hd1.putOn (by simp only; rw [(layTo_len _ _ _).2, HOL.out]) j .empty
        have HC : Hid (∀ w', (w' = u0 ∨ w' = u1 ∨ w' = u2) → w'.cell? ⟨y, 0, none⟩ = some (.slice (some ⟨gh, 0, none⟩) n ch) ∧ w'.cell? ⟨y, 1, none⟩ = some (.slice (some ⟨go, 0, none⟩) n co)) := Lib.hid (fun w' hw => by
          rcases hw with rfl | rfl | rfl
          · have a := hd0.blk.cell 0
            have b := hd0.blk.cell 1
            simp at a b
            exact ⟨a, b⟩
          · have a := hd1.blk.cell 0
            have b := hd1.blk.cell 1
            simp at a b
            exact ⟨a, b⟩
          · have a := hd2.blk.cell 0
            have b := hd2.blk.cell 1
            simp at a b
            exact ⟨a, b⟩)
        have HO0 : Hid (u0.cell? ⟨go, j, none⟩ = some (.string bx) ∧ u0.cell? ⟨gh, j, none⟩ = some (.string hx) ∧ u0.frozen? ⟨gh, j, none⟩ = false) := Lib.hid (by rw [hu0]; exact ⟨hcx, hch, hfh⟩)
        have hgne : gh ≠ go := fun e => HD.out.apart gh rfl (by rw [e]; rfl)
        have HO1 : Hid (u1.cell? ⟨go, j, none⟩ = some (.string bx) ∧ u1.frozen? ⟨go, j, none⟩ = false) := Lib.hid (by
          have hk := hd1.on
          simp only at hk
          rw [(layTo_len _ _ _).2, HOL.out] at hk
          refine ⟨?_, krow_frozen hk _⟩
          rw [hu1, World.cell?_of_block (a := ⟨go, j, none⟩) (w := u0) (Below.heap_setCell _ _ _ _ (fun e => hgne e.symm))]
          exact HO0.out.1)
        have hb2 : Below w.heap.size w u2 := by
          rw [hu2, hu1, hu0]
          have hg1 := (HD.out.home.lt gh rfl).1
          have hg2 := (HD.out.on.lt go rfl).1
          exact ((HBR.out.trans (Below.refl _ _).drew).setCell hg1 _).setCell hg2 _
        have HB2 := Lib.hid hb2
        have HD2 := Lib.hid hd2
        have HU0 := Lib.hid hu0
        have HU1 := Lib.hid hu1
        have HU2 := Lib.hid hu2
        clear hd0 hd1 hd2 hb2 hdh hdo hch hfh hfo hu0 hu1 hu2 hgd hne hb hgne
        go_upto_region 6 with fail
        refine wp_region_known 21 slY (fun | 0 => .pointer (some ⟨y, 0, none⟩) | 1 => .pointer (some ⟨y, 0, none⟩) | 2 => .pointer (some ⟨y, 0, none⟩) | 3 => .slice (some ⟨gh, 0, none⟩) n ch | 4 => .int .i64 (j : Int) | 5 => .pointer (some ⟨y, 0, none⟩) | 6 => .pointer (some ⟨y, 0, none⟩) | 7 => .pointer (some ⟨y, 1, none⟩) | 8 => .slice (some ⟨go, 0, none⟩) n co | 9 => .int .i64 (j : Int) | 10 => .pointer (some ⟨y, 0, none⟩) | 11 => .pointer (some ⟨y, 0, none⟩) | 12 => .pointer (some ⟨y, 1, none⟩) | 13 => .slice (some ⟨go, 0, none⟩) n co | 14 => .int .i64 (j : Int) | 15 => .pointer (some ⟨go, j, none⟩) | 16 => .string bx | 17 => .pointer (some ⟨gh, j, none⟩) | 19 => .pointer (some ⟨go, j, none⟩) | _ => undef) (fun L w' => w' = if L 20 then u2 else if L 18 then u1 else u0) (by kernel_rfl) (by kernel_rfl) rfl (by kernel_rfl) (by kernel_rfl) HU0.out.symm ?hops ?hrest
        case hops =>
          intro o ho L z w' hc hF hLj hJ hw hv
          have hJ4 : w' = u0 ∨ w' = u1 ∨ w' = u2 := by
            rw [hJ]
            split
            · exact .inr (.inr rfl)
            · split
              · exact .inr (.inl rfl)
              · exact .inl rfl
          obtain ⟨y1, y4⟩ := HC.out w' hJ4
          have HJ := Lib.hid hJ
          clear hJ4 hJ
          rcases (show o = 0 ∨ o = 1 ∨ o = 2 ∨ o = 3 ∨ o = 4 ∨ o = 5 ∨ o = 6 ∨ o = 7 ∨ o = 8 ∨ o = 9 ∨ o = 10 ∨ o = 11 ∨ o = 12 ∨ o = 13 ∨ o = 14 ∨ o = 15 ∨ o = 16 ∨ o = 17 ∨ o = 18 ∨ o = 19 ∨ o = 20 by omega) with rfl | rfl | rfl | rfl | rfl | rfl | rfl | rfl | rfl | rfl | rfl | rfl | rfl | rfl | rfl | rfl | rfl | rfl | rfl | rfl | rfl
          · have s0 : z.tmps[3]?.getD undef = .pointer (some ⟨y, 0, none⟩) := by rw [hF 3 (slY_far (by omega))]; rfl
            clear hw hv hF hc
            refine wpOp_value (v := .pointer (some ⟨y, 0, none⟩)) (w' := _) rfl rfl ?_ ⟨rfl, HJ.out⟩
            go_simp
          · have t0 : z.tmps[24]?.getD undef = .pointer (some ⟨y, 0, none⟩) := hv 0 (of_decide_eq_true (by kernel_rfl)) (by omega) 24 rfl
            clear hw hv hF hc
            refine wpOp_value (v := .pointer (some ⟨y, 0, none⟩)) (w' := _) rfl rfl ?_ ⟨rfl, HJ.out⟩
            go_simp
          · have t0 : z.tmps[25]?.getD undef = .pointer (some ⟨y, 0, none⟩) := hv 1 (of_decide_eq_true (by kernel_rfl)) (by omega) 25 rfl
            clear hw hv hF hc
            refine wpOp_value (v := .pointer (some ⟨y, 0, none⟩)) (w' := _) rfl rfl ?_ ⟨rfl, HJ.out⟩
            go_simp
          · have t0 : z.tmps[26]?.getD undef = .pointer (some ⟨y, 0, none⟩) := hv 2 (of_decide_eq_true (by kernel_rfl)) (by omega) 26 rfl
            clear hw hv hF hc
            refine wpOp_value (v := .slice (some ⟨gh, 0, none⟩) n ch) (w' := _) rfl rfl ?_ ⟨rfl, HJ.out⟩
            go_simp
          · have s0 : z.tmps[4]?.getD undef = .int .i64 (j : Int) := by rw [hF 4 (slY_far (by omega))]; rfl
            clear hw hv hF hc
            refine wpOp_value (v := .int .i64 (j : Int)) (w' := _) rfl rfl ?_ ⟨rfl, HJ.out⟩
            go_simp
          · have s0 : z.tmps[3]?.getD undef = .pointer (some ⟨y, 0, none⟩) := by rw [hF 3 (slY_far (by omega))]; rfl
            clear hw hv hF hc
            refine wpOp_value (v := .pointer (some ⟨y, 0, none⟩)) (w' := _) rfl rfl ?_ ⟨rfl, HJ.out⟩
            go_simp
          · have t0 : z.tmps[29]?.getD undef = .pointer (some ⟨y, 0, none⟩) := hv 5 (of_decide_eq_true (by kernel_rfl)) (by omega) 29 rfl
            clear hw hv hF hc
            refine wpOp_value (v := .pointer (some ⟨y, 0, none⟩)) (w' := _) rfl rfl ?_ ⟨rfl, HJ.out⟩
            go_simp
          · have t0 : z.tmps[30]?.getD undef = .pointer (some ⟨y, 0, none⟩) := hv 6 (of_decide_eq_true (by kernel_rfl)) (by omega) 30 rfl
            clear hw hv hF hc
            refine wpOp_value (v := .pointer (some ⟨y, 1, none⟩)) (w' := _) rfl rfl ?_ ⟨rfl, HJ.out⟩
            go_simp
          · have t0 : z.tmps[31]?.getD undef = .pointer (some ⟨y, 1, none⟩) := hv 7 (of_decide_eq_true (by kernel_rfl)) (by omega) 31 rfl
            clear hw hv hF hc
            refine wpOp_value (v := .slice (some ⟨go, 0, none⟩) n co) (w' := _) rfl rfl ?_ ⟨rfl, HJ.out⟩
            go_simp
          · have s0 : z.tmps[4]?.getD undef = .int .i64 (j : Int) := by rw [hF 4 (slY_far (by omega))]; rfl
            clear hw hv hF hc
            refine wpOp_value (v := .int .i64 (j : Int)) (w' := _) rfl rfl ?_ ⟨rfl, HJ.out⟩
            go_simp
          · have s0 : z.tmps[3]?.getD undef = .pointer (some ⟨y, 0, none⟩) := by rw [hF 3 (slY_far (by omega))]; rfl
            clear hw hv hF hc
            refine wpOp_value (v := .pointer (some ⟨y, 0, none⟩)) (w' := _) rfl rfl ?_ ⟨rfl, HJ.out⟩
            go_simp
          · have t0 : z.tmps[34]?.getD undef = .pointer (some ⟨y, 0, none⟩) := hv 10 (of_decide_eq_true (by kernel_rfl)) (by omega) 34 rfl
            clear hw hv hF hc
            refine wpOp_value (v := .pointer (some ⟨y, 0, none⟩)) (w' := _) rfl rfl ?_ ⟨rfl, HJ.out⟩
            go_simp
          · have t0 : z.tmps[35]?.getD undef = .pointer (some ⟨y, 0, none⟩) := hv 11 (of_decide_eq_true (by kernel_rfl)) (by omega) 35 rfl
            clear hw hv hF hc
            refine wpOp_value (v := .pointer (some ⟨y, 1, none⟩)) (w' := _) rfl rfl ?_ ⟨rfl, HJ.out⟩
            go_simp
          · have t0 : z.tmps[36]?.getD undef = .pointer (some ⟨y, 1, none⟩) := hv 12 (of_decide_eq_true (by kernel_rfl)) (by omega) 36 rfl
            clear hw hv hF hc
            refine wpOp_value (v := .slice (some ⟨go, 0, none⟩) n co) (w' := _) rfl rfl ?_ ⟨rfl, HJ.out⟩
            go_simp
          · have s0 : z.tmps[4]?.getD undef = .int .i64 (j : Int) := by rw [hF 4 (slY_far (by omega))]; rfl
            clear hw hv hF hc
            refine wpOp_value (v := .int .i64 (j : Int)) (w' := _) rfl rfl ?_ ⟨rfl, HJ.out⟩
            go_simp
          · have t0 : z.tmps[37]?.getD undef = .slice (some ⟨go, 0, none⟩) n co := hv 13 (of_decide_eq_true (by kernel_rfl)) (by omega) 37 rfl
            have t1 : z.tmps[38]?.getD undef = .int .i64 (j : Int) := hv 14 (of_decide_eq_true (by kernel_rfl)) (by omega) 38 rfl
            clear hw hv hF hc
            refine wpOp_value (v := .pointer (some ⟨go, j, none⟩)) (w' := _) rfl rfl ?_ ⟨rfl, HJ.out⟩
            go_simp
          · have t0 : z.tmps[39]?.getD undef = .pointer (some ⟨go, j, none⟩) := hv 15 (of_decide_eq_true (by kernel_rfl)) (by omega) 39 rfl
            have h18 : L 18 = false := by
              cases h : L 18 with
              | false => rfl
              | true => exact absurd (hc 18 h 16 (of_decide_eq_true (by kernel_rfl))) (by rw [hLj]; simp)
            have h20 : L 20 = false := by
              cases h : L 20 with
              | false => rfl
              | true => exact absurd (hc 20 h 18 (of_decide_eq_true (by kernel_rfl))) (by rw [h18]; simp)
            have hw0 : w' = u0 := by have := HJ.out; rw [h18, h20] at this; exact this
            subst hw0
            obtain ⟨q1, q2, q3⟩ := HO0.out
            clear hw hv hF hc
            refine wpOp_value (v := .string bx) (w' := _) rfl rfl ?_ ⟨rfl, HJ.out⟩
            go_simp
          · have t0 : z.tmps[27]?.getD undef = .slice (some ⟨gh, 0, none⟩) n ch := hv 3 (of_decide_eq_true (by kernel_rfl)) (by omega) 27 rfl
            have t1 : z.tmps[28]?.getD undef = .int .i64 (j : Int) := hv 4 (of_decide_eq_true (by kernel_rfl)) (by omega) 28 rfl
            clear hw hv hF hc
            refine wpOp_value (v := .pointer (some ⟨gh, j, none⟩)) (w' := _) rfl rfl ?_ ⟨rfl, HJ.out⟩
            go_simp
          · have t0 : z.tmps[41]?.getD undef = .pointer (some ⟨gh, j, none⟩) := hv 17 (of_decide_eq_true (by kernel_rfl)) (by omega) 41 rfl
            have t1 : z.tmps[40]?.getD undef = .string bx := hv 16 (of_decide_eq_true (by kernel_rfl)) (by omega) 40 rfl
            have h18 : L 18 = false := hLj
            have h20 : L 20 = false := by
              cases h : L 20 with
              | false => rfl
              | true => exact absurd (hc 20 h 18 (of_decide_eq_true (by kernel_rfl))) (by rw [h18]; simp)
            have hw0 : w' = u0 := by have := HJ.out; rw [h18, h20] at this; exact this
            subst hw0
            obtain ⟨q1, q2, q3⟩ := HO0.out
            clear hw hv hF hc
            refine wpOp_skip (w' := u1) rfl rfl (by rw [HU1.out]; go_simp) ?_
            refine ⟨rfl, ?_⟩
            show u1 = if L 20 = true then u2 else u1
            rw [h20]
            rfl
          · have t0 : z.tmps[32]?.getD undef = .slice (some ⟨go, 0, none⟩) n co := hv 8 (of_decide_eq_true (by kernel_rfl)) (by omega) 32 rfl
            have t1 : z.tmps[33]?.getD undef = .int .i64 (j : Int) := hv 9 (of_decide_eq_true (by kernel_rfl)) (by omega) 33 rfl
            clear hw hv hF hc
            refine wpOp_value (v := .pointer (some ⟨go, j, none⟩)) (w' := _) rfl rfl ?_ ⟨rfl, HJ.out⟩
            go_simp
          · have t0 : z.tmps[42]?.getD undef = .pointer (some ⟨go, j, none⟩) := hv 19 (of_decide_eq_true (by kernel_rfl)) (by omega) 42 rfl
            have h18 : L 18 = true := hw 18 (of_decide_eq_true (by kernel_rfl))
            have hw0 : w' = u1 := by have := HJ.out; rw [h18, hLj] at this; exact this
            subst hw0
            obtain ⟨q1, q2⟩ := HO1.out
            clear hw hv hF hc
            refine wpOp_skip (w' := u2) rfl rfl (by rw [HU2.out]; go_simp; rfl) ?_
            exact ⟨rfl, rfl⟩
        case hrest =>
          intro L w' hL hJ
          rw [hL 20 (by omega)] at hJ
          have hJ' : w' = u2 := hJ
          subst hJ'
          clear hL hJ
          simp only [putSlots, slY, List.range, List.range.loop, List.foldl, List.setIfInBounds_toArray, List.set_cons_succ, List.set_cons_zero]
          clear c0 c1 hcx
          go_wp2_with fail
          go_roundw
          case rel => exact ⟨j + 1, by omega, by go_num, by rw [HL.out]; exact HD2.out, HB2.out⟩
          case measure => simp [intOf]; omega
    · obtain rfl : j = n := by omega
      have HLAY : Hid (layTo s.home s.on j = layTo s.home s.on s.on.length) := Lib.hid (by rw [HOL.out])
      have hus := HD.out.used
      simp only at hus
      obtain ⟨v', w3, hrun, hown3, hb3⟩ := append_copy (P := Tryz.prog) 39 39 3 j0 (.int .i64 0) 1 8 Tryz.underlying39 HJ0.out hy0 hy1 hy2 rfl (by omega) hus (intV_one _) (by unfold maxLen; have := HUL.out; omega) (by have := HUL.out; omega)
      obtain ⟨pv, cv, hvv, -⟩ := row_slice' hown3
      subst hvv
      have HRUN := Lib.hid hrun
      have hd3 := HD.out.below hb3
      obtain ⟨w4, hw4⟩ : ∃ w4, w4 = w3.setCell ⟨y, 3, none⟩ (.slice pv s.used.length cv) := ⟨_, rfl⟩
      have hd4 : DocIs w4 w.heap.size y (.slice (some ⟨gh, 0, none⟩) j ch) (.slice (some ⟨go, 0, none⟩) j co) (.slice pu s.used.length cu) (.slice pv s.used.length cv) ⟨(layTo s.home s.on j).1, (layTo s.home s.on j).2, s.used, s.used⟩ := by
        rw [hw4]
        exact hd3.putWas (row_lower hown3 HBR.out.size) (fun b hb e => by have := (hus.lt b hb).2; have := (hown3.lt b e).1; omega)
      have hb4 : Below w.heap.size w w4 := by rw [hw4]; exact (HBR.out.trans (hb3.mono HBR.out.size)).setCell hd3.low _
      have c3 := hd3.blk.cell 3
      have f3 := hd3.blk.frozen 3
      have k2 := HD.out.blk.cell 2
      simp at c3 k2
      have HD4 := Lib.hid hd4
      have HB4 := Lib.hid hb4
      have HW4 := Lib.hid hw4
      clear hus hrun hown3 hb3 hd3 hd4 hb4 hw4
      go_upto_region 7 with fail
      clear c0 c1
      go_wp2_with (at_builtin; refine wpList_value rfl (exec_append rfl rfl rfl HRUN.out) ?_)
      rw [← HW4.out]
      clear c3 f3 k2
      have HC : Hid (∀ w', Below w4.heap.size w4 w' → w'.cell? ⟨y, 0, none⟩ = some (.slice (some ⟨gh, 0, none⟩) j ch) ∧ w'.cell? ⟨y, 3, none⟩ = some (.slice pv s.used.length cv)) := Lib.hid (fun w' hb => by
        have hd := HD4.out.below hb
        have a := hd.blk.cell 0
        have b := hd.blk.cell 3
        simp at a b
        exact ⟨a, b⟩)
      obtain ⟨T, hT⟩ : ∃ T, T = bs (roomT j s.used) := ⟨_, rfl⟩
      have HLR : Hid (∀ w', Below w4.heap.size w4 w' → Calls Tryz.prog 42 #[.int .i64 (j : Int), .slice pv s.used.length cv] w' fun e w'' => e = .returned (.string T) ∧ Below w'.heap.size w' w'') := Lib.hid (fun w' hb => by
        rw [hT]
        exact rlayroom_any j pv _ cv s.used w' (by omega) HU.out rfl (row_intsV rfl (HD4.out.below hb).was))
      have HT := Lib.hid hT
      clear hT
      go_upto_region 8 with fail
      refine wp_region_vals (W := w4) 51 14 64 2 (fun | 0 => .pointer (some ⟨y, 0, none⟩) | 1 => .pointer (some ⟨y, 0, none⟩) | 2 => .pointer (some ⟨y, 0, none⟩) | 3 => .slice (some ⟨gh, 0, none⟩) j ch | 4 => .pointer (some ⟨y, 0, none⟩) | 5 => .pointer (some ⟨y, 0, none⟩) | 6 => .pointer (some ⟨y, 0, none⟩) | 7 => .slice (some ⟨gh, 0, none⟩) j ch | 8 => .int .i64 (j : Int) | 9 => .pointer (some ⟨y, 0, none⟩) | 10 => .pointer (some ⟨y, 0, none⟩) | 11 => .pointer (some ⟨y, 3, none⟩) | 12 => .slice pv s.used.length cv | 13 => .string T | _ => undef) (by kernel_rfl) (by kernel_rfl) rfl (by omega) (by kernel_rfl) rfl (by simp) ?hval ?hrest
      case hval =>
        intro i hi z w' hB hF hv
        obtain ⟨k0, k3⟩ := HC.out w' hB
        have HBW := Lib.hid hB
        clear hB
        rcases (show i = 0 ∨ i = 1 ∨ i = 2 ∨ i = 3 ∨ i = 4 ∨ i = 5 ∨ i = 6 ∨ i = 7 ∨ i = 8 ∨ i = 9 ∨ i = 10 ∨ i = 11 ∨ i = 12 ∨ i = 13 by omega) with rfl | rfl | rfl | rfl | rfl | rfl | rfl | rfl | rfl | rfl | rfl | rfl | rfl | rfl
        · have s0 : z.tmps[3]?.getD undef = .pointer (some ⟨y, 0, none⟩) := by rw [hF.2.2 3 (by omega)]; rfl
          clear hv hF
          refine wpOp_value (v := .pointer (some ⟨y, 0, none⟩)) (w' := w') rfl rfl ?_ ⟨rfl, Below.refl _ _⟩
          go_simp
        · have t0 : z.tmps[51]?.getD undef = .pointer (some ⟨y, 0, none⟩) := hv 0 (of_decide_eq_true (by kernel_rfl)) (by omega)
          clear hv hF
          refine wpOp_value (v := .pointer (some ⟨y, 0, none⟩)) (w' := w') rfl rfl ?_ ⟨rfl, Below.refl _ _⟩
          go_simp
        · have t0 : z.tmps[52]?.getD undef = .pointer (some ⟨y, 0, none⟩) := hv 1 (of_decide_eq_true (by kernel_rfl)) (by omega)
          clear hv hF
          refine wpOp_value (v := .pointer (some ⟨y, 0, none⟩)) (w' := w') rfl rfl ?_ ⟨rfl, Below.refl _ _⟩
          go_simp
        · have t0 : z.tmps[53]?.getD undef = .pointer (some ⟨y, 0, none⟩) := hv 2 (of_decide_eq_true (by kernel_rfl)) (by omega)
          clear hv hF
          refine wpOp_value (v := .slice (some ⟨gh, 0, none⟩) j ch) (w' := w') rfl rfl ?_ ⟨rfl, Below.refl _ _⟩
          go_simp
        · have s0 : z.tmps[3]?.getD undef = .pointer (some ⟨y, 0, none⟩) := by rw [hF.2.2 3 (by omega)]; rfl
          clear hv hF
          refine wpOp_value (v := .pointer (some ⟨y, 0, none⟩)) (w' := w') rfl rfl ?_ ⟨rfl, Below.refl _ _⟩
          go_simp
        · have t0 : z.tmps[55]?.getD undef = .pointer (some ⟨y, 0, none⟩) := hv 4 (of_decide_eq_true (by kernel_rfl)) (by omega)
          clear hv hF
          refine wpOp_value (v := .pointer (some ⟨y, 0, none⟩)) (w' := w') rfl rfl ?_ ⟨rfl, Below.refl _ _⟩
          go_simp
        · have t0 : z.tmps[56]?.getD undef = .pointer (some ⟨y, 0, none⟩) := hv 5 (of_decide_eq_true (by kernel_rfl)) (by omega)
          clear hv hF
          refine wpOp_value (v := .pointer (some ⟨y, 0, none⟩)) (w' := w') rfl rfl ?_ ⟨rfl, Below.refl _ _⟩
          go_simp
        · have t0 : z.tmps[57]?.getD undef = .pointer (some ⟨y, 0, none⟩) := hv 6 (of_decide_eq_true (by kernel_rfl)) (by omega)
          clear hv hF
          refine wpOp_value (v := .slice (some ⟨gh, 0, none⟩) j ch) (w' := w') rfl rfl ?_ ⟨rfl, Below.refl _ _⟩
          go_simp
        · have t0 : z.tmps[58]?.getD undef = .slice (some ⟨gh, 0, none⟩) j ch := hv 7 (of_decide_eq_true (by kernel_rfl)) (by omega)
          clear hv hF
          refine wpOp_value (v := .int .i64 (j : Int)) (w' := w') rfl rfl ?_ ⟨rfl, Below.refl _ _⟩
          go_simp
        · have s0 : z.tmps[3]?.getD undef = .pointer (some ⟨y, 0, none⟩) := by rw [hF.2.2 3 (by omega)]; rfl
          clear hv hF
          refine wpOp_value (v := .pointer (some ⟨y, 0, none⟩)) (w' := w') rfl rfl ?_ ⟨rfl, Below.refl _ _⟩
          go_simp
        · have t0 : z.tmps[60]?.getD undef = .pointer (some ⟨y, 0, none⟩) := hv 9 (of_decide_eq_true (by kernel_rfl)) (by omega)
          clear hv hF
          refine wpOp_value (v := .pointer (some ⟨y, 0, none⟩)) (w' := w') rfl rfl ?_ ⟨rfl, Below.refl _ _⟩
          go_simp
        · have t0 : z.tmps[61]?.getD undef = .pointer (some ⟨y, 0, none⟩) := hv 10 (of_decide_eq_true (by kernel_rfl)) (by omega)
          clear hv hF
          refine wpOp_value (v := .pointer (some ⟨y, 3, none⟩)) (w' := w') rfl rfl ?_ ⟨rfl, Below.refl _ _⟩
          go_simp
        · have t0 : z.tmps[62]?.getD undef = .pointer (some ⟨y, 3, none⟩) := hv 11 (of_decide_eq_true (by kernel_rfl)) (by omega)
          clear hv hF
          refine wpOp_value (v := .slice pv s.used.length cv) (w' := w') rfl rfl ?_ ⟨rfl, Below.refl _ _⟩
          go_simp
        · have t0 : z.tmps[59]?.getD undef = .int .i64 (j : Int) := hv 8 (of_decide_eq_true (by kernel_rfl)) (by omega)
          have t1 : z.tmps[63]?.getD undef = .slice pv s.used.length cv := hv 12 (of_decide_eq_true (by kernel_rfl)) (by omega)
          clear hv hF
          refine wpOp_call (f := 42) (args := #[.int .i64 (j : Int), .slice pv s.used.length cv]) rfl rfl (by go_simp) ((HLR.out w' HBW.out).mono ?_)
          rintro e w'' ⟨rfl, hb⟩
          exact ⟨_, rfl, rfl, hb⟩
      case hrest =>
        intro w' hB
        have hd5 := HD4.out.below hB
        have HB5 := Lib.hid (HB4.out.trans (hB.mono HB4.out.size))
        have hhm := hd5.home
        simp only at hhm
        rw [(layTo_len _ _ _).1, HHL.out] at hhm
        obtain ⟨hx, hhx⟩ : ∃ hx, (layTo s.home s.on j).1[1]? = some hx := ⟨(layTo s.home s.on j).1[1]'(by rw [(layTo_len _ _ _).1, HHL.out]; omega), List.getElem?_eq_getElem _⟩
        have hch : w'.cell? ⟨gh, 1, none⟩ = some (.string hx) := krow_cell hhm (by unfold txtV; rw [List.getElem?_map, hhx]; rfl)
        have hfh : w'.frozen? ⟨gh, 1, none⟩ = false := krow_frozen hhm _
        have HDF : Hid (DocAt (w'.setCell ⟨gh, 1, none⟩ (.string T)) w.heap.size y (syncD s)) := Lib.hid (by
          have hp := hd5.putHome (by simp only; rw [(layTo_len _ _ _).1, HHL.out]) 1 T
          unfold syncD
          rw [← HLAY.out, HHL.out, ← HT.out]
          exact ⟨_, _, _, _, hp⟩)
        have HBF : Hid (Below w.heap.size w (w'.setCell ⟨gh, 1, none⟩ (.string T))) := Lib.hid (HB5.out.setCell (hd5.home.lt gh rfl).1 _)
        have hjI1 : (1 : Int) < (j : Int) := by omega
        clear hB hd5 hhm hhx
        rw [show List.range' 14 2 = [14, 15] from rfl]
        simp only [putAll, List.range, List.range.loop, List.foldl, Nat.reduceAdd, List.setIfInBounds_toArray, List.set_cons_succ, List.set_cons_zero]
        rw [wpOps_cons]
        refine wpOp_value (v := .pointer (some ⟨gh, 1, none⟩)) (w' := w') rfl rfl (by go_simp) ?_
        change wpOps _ _ _ [15] (Act.put _ (some 65) _) _
        simp only [Act.put, List.setIfInBounds_toArray, List.set_cons_succ, List.set_cons_zero]
        rw [wpOps_cons]
        refine wpOp_skip (w' := w'.setCell ⟨gh, 1, none⟩ (.string T)) rfl rfl (by go_simp) ?_
        simp only [wpOps, Act.put, List.setIfInBounds_toArray]
        clear hch hfh
        go_wp2_with fail
        go_ret
        exact ⟨_, rfl, HDF.out, HBF.out⟩
end Go.Proofs.YtiagofgcinlnhaaGreatDoor
