/-
  Package desk: Mark. No statement is proved here.
-/
import Derived.Test.YtiagofgcinlnhaaGreatDoorDeskUse
import Derived.Test.YtiagofgcinlnhaaGreatDoorDeskSt
import Derived.Lib.AppendZeros
import Derived.Test.YtiagofgcinlnhaaGreatDoorHeadParse
namespace Go.Proofs.YtiagofgcinlnhaaGreatDoor
open Go.RowKit
def useK (K : KD) (H : List Int) : KD := { K with H := H, F := keepF H K.F }
section
variable {w w' : World} {P : List Nat} {g gw gm gr gd m : Nat} {O : List Nat} {K : KD}
set_option maxRecDepth 100000 in
set_option maxHeartbeats 2000000 in
theorem kuse_any {r : Nat} {H : List Int} (h : DeskAt w P g gd m K) (hr : RoomAt w r (K.S.now.length - 111) H) (hP : r ∉ P) :
    Calls Tryz.prog 48 #[.pointer (some ⟨g, 0, none⟩), .pointer (some ⟨r, 0, none⟩)] w fun e w' => e = .returned (.tuple #[]) ∧ ∃ P', DeskAt w' P' g gd m (useK K H) ∧ (∀ b ∈ P', b ∈ P ∨ b = r) ∧ Keep P w w' := by
  obtain ⟨gw, gm, gr, O, rfl, h⟩ := h
  obtain ⟨a1, a2, a3, a4, a5, a6, a7, a8, a9, a10⟩ := h.nodup
  simp only [List.mem_cons, not_or] at hP
  obtain ⟨p1, p2, p3, p4, p5⟩ := hP
  obtain ⟨V, hV⟩ : ∃ V, V = w.alloc (.cells #[.pointer (some ⟨r, 0, none⟩)] 34) := ⟨_, rfl⟩
  have hbV : Below w.heap.size w V := by rw [hV]; exact (Below.refl _ _).alloc (Nat.le_refl _) _
  have hxV : V.cell? ⟨w.heap.size, 0, none⟩ = some (.pointer (some ⟨r, 0, none⟩)) := by rw [hV]; exact (Boxed.new w 34 _).cell
  have hsV : V.heap.size = w.heap.size + 1 := by rw [hV]; simp
  have hV1 := h.kept (fun b hb => hbV.block b (h.lt hb))
  have c2 := hV1.blk.cell 2
  have f2 := hV1.blk.frozen 2
  simp [deskC] at c2
  have hgl := hV1.blk.lt
  obtain ⟨W, hW⟩ : ∃ W, W = V.setCell ⟨g, 2, none⟩ (.pointer (some ⟨r, 0, none⟩)) := ⟨_, rfl⟩
  have hkW : Keep [g] V W := by rw [hW]; exact (Keep.refl _ _).put (.inl (by simp)) 2 _
  have hrl := hr.lt
  have hgw : g < w.heap.size := h.blk.lt
  have hgmw : gm < w.heap.size := h.map.lt
  have hW1 : DeskIs W g gw gm r gd m O { K with H := H } := by
    refine ⟨?_, hV1.wal.keep hkW (by simp; exact fun e => a1 e.symm), hV1.disk.far hkW (fun b hb => by simp; rintro rfl; exact a7 hb), hV1.map.keep hkW (by simp; exact fun e => a2 e.symm), (hr.below hbV).keep hkW (by simp; exact p1), ?_⟩
    · rw [hW]
      have := hV1.blk.put 2 (.pointer (some ⟨r, 0, none⟩))
      simpa [deskC] using this
    · have hO := h.apart
      simp only [List.nodup_cons, List.mem_cons, not_or] at hO ⊢
      exact ⟨⟨a1, a2, fun e => p1 e.symm, a7⟩, ⟨a4, fun e => p2 e.symm, a8⟩, ⟨fun e => p3 e.symm, a9⟩, p5, hO.2.2.2.2⟩
  have hxW : W.cell? ⟨w.heap.size, 0, none⟩ = some (.pointer (some ⟨r, 0, none⟩)) := (World.cell?_of_block (a := ⟨w.heap.size, 0, none⟩) (hkW.block w.heap.size (by omega) (by simp; omega))).trans hxV
  have hsW : V.heap.size ≤ W.heap.size := hkW.size
  have HDL := Lib.hid (delf_any hW1.map hxW (by omega) (by omega) hW1.room (fun e => p3 e))
  have c1 : W.cell? ⟨g, 1, none⟩ = some (.map (some gm)) := by have := hW1.blk.cell 1; simpa [deskC] using this
  have HW1 := Lib.hid hW1
  have HKW : Hid (Keep (g :: gw :: gm :: gr :: O) w W) := Lib.hid ((Keep.of_below hbV).trans' (hkW.mono (fun b hb => .inl (by simp at hb; subst hb; simp))))
  clear h a1 a2 a3 a4 a5 a6 a7 a8 a9 a10 hV1 hkW hW1 hr hrl
  go_enter Tryz.func48, Tryz.ntmps48
  go_upto_region 1 with fail
  rw [← hV]
  clear hV hbV
  go_upto_region 2 with fail
  rw [← hW]
  clear hW c2 f2 hxV
  go_wp2_with fail
  refine HDL.out.mono ?_
  rintro e w3 ⟨rfl, hm3, hg3⟩
  have HM3 := Lib.hid hm3
  have HG3 := Lib.hid hg3
  clear hm3 hg3 HDL
  go_wp2_with fail
  go_end0
  refine ⟨rfl, _, (HW1.out.lay HM3.out HG3.out).at, fun b hb => ?_, HKW.out.by_in HG3.out (fun b e => by cases e; exact .inl (by simp))⟩
  simp only [List.mem_cons] at hb ⊢
  rcases hb with h | h | h | h | h
  · exact .inl (.inl h)
  · exact .inl (.inr (.inl h))
  · exact .inl (.inr (.inr (.inl h)))
  · exact .inr h
  · exact .inl (.inr (.inr (.inr (.inr h))))
def dropR (H : List Int) : List Int → Option (List Int)
  | [] => some H
  | x :: r => if x = 0 ∨ x = 1 ∨ x ∉ H then none else dropR (dropL x H) r
theorem dropR_step {H : List Int} {l : List Int} {j : Nat} {x : Int} (hx : l[j]? = some x) : dropR H (l.drop j) = if x = 0 ∨ x = 1 ∨ x ∉ H then none else dropR (dropL x H) (l.drop (j + 1)) := by
  have hj : j < l.length := by
    rcases Nat.lt_or_ge j l.length with h | h
    · exact h
    · rw [List.getElem?_eq_none h] at hx; cases hx
  have e : l.drop j = x :: l.drop (j + 1) := by
    rw [List.drop_eq_getElem_cons hj]
    rw [List.getElem?_eq_getElem hj] at hx
    rw [Option.some.inj hx]
  rw [e]
  rfl
theorem giveL_one (H : List Int) (x : Int) : giveL H [x] = if x ∈ H then (dropL x H, 1) else (H, 0) := by
  unfold giveL
  simp [giveS]
def dropE (K : KD) (l : List Int) : Int := match dropR K.H l with | none => 15 | some _ => 0
def dropK (K : KD) (l : List Int) : KD := match dropR K.H l with | none => K | some H => useK K H
set_option maxRecDepth 100000 in
set_option maxHeartbeats 4000000 in
theorem kdrop_any (A : Option Addr) (q c : Nat) (l : List Int) (h : DeskAt w P g gd m K) (hb0 : K.bad = 0) (hm : l.length = q) (hx : Ints w w.heap.size A l) (hq : q ≤ 100000) :
    Calls Tryz.prog 17 #[.pointer (some ⟨g, 0, none⟩), .slice A q c] w fun e w' => e = .returned (.int .i64 (dropE K l)) ∧ DTurns P g gd m (dropK K l) w w' := by
  have HK := Lib.hid h
  have HB := Lib.hid (kbad_any h)
  rw [hb0] at HB
  have HX := Lib.hid hx
  have HM := Lib.hid hm
  have HP : Hid (∀ b ∈ P, b < w.heap.size) := Lib.hid (fun b hb => HK.out.lt hb)
  obtain ⟨N1, hN1⟩ : ∃ N1, N1 = K.S.now.length - 111 := ⟨_, rfl⟩
  have HC : Hid (Calls Tryz.prog 46 #[.pointer (some ⟨(h.choose_spec.choose_spec.choose), 0, none⟩)] w fun e w' => e = .returned (.pointer (some ⟨w.heap.size, 0, none⟩)) ∧ RoomAt w' w.heap.size N1 K.H ∧ Below w.heap.size w w') := Lib.hid (by
    obtain ⟨O, _, hd⟩ := h.choose_spec.choose_spec.choose_spec
    rw [hN1]
    exact rcopy_any hd.room)
  have c2 : w.cell? ⟨g, 2, none⟩ = some (.pointer (some ⟨(h.choose_spec.choose_spec.choose), 0, none⟩)) := by
    obtain ⟨O, _, hd⟩ := h.choose_spec.choose_spec.choose_spec
    have := hd.blk.cell 2
    simpa [deskC] using this
  obtain ⟨gr, hgr⟩ : ∃ gr, gr = h.choose_spec.choose_spec.choose := ⟨_, rfl⟩
  rw [← hgr] at HC c2
  have HUSE : Hid (∀ (w1 : World) (H : List Int), Below w.heap.size w w1 → RoomAt w1 w.heap.size N1 H → Calls Tryz.prog 48 #[.pointer (some ⟨g, 0, none⟩), .pointer (some ⟨w.heap.size, 0, none⟩)] w1 fun e w' => e = .returned (.tuple #[]) ∧ DTurns P g gd m (useK K H) w w') := Lib.hid (by
    intro w1 H hb hr
    rw [hN1] at hr
    refine (kuse_any (HK.out.below hb) hr (fun hm => by have := HP.out _ hm; omega)).mono ?_
    rintro e w' ⟨rfl, P', a1, a2, a3⟩
    refine ⟨rfl, P', a1, fun b hb' => ?_, (Keep.of_below hb).trans' a3⟩
    rcases a2 b hb' with h | h
    · exact .inl h
    · exact .inr (by omega))
  have hqI : (q : Int) ≤ 100000 := by omega
  obtain ⟨E, hE⟩ : ∃ E, E = dropE K l := ⟨_, rfl⟩
  obtain ⟨K', hK'⟩ : ∃ K', K' = dropK K l := ⟨_, rfl⟩
  have HNO : Hid (dropR K.H l = none → E = 15 ∧ K' = K) := Lib.hid (fun e => by rw [hE, hK']; unfold dropE dropK; rw [e]; exact ⟨rfl, rfl⟩)
  have HYES : Hid (∀ H, dropR K.H l = some H → E = 0 ∧ K' = useK K H) := Lib.hid (fun H e => by rw [hE, hK']; unfold dropE dropK; rw [e]; exact ⟨rfl, rfl⟩)
  rw [← hE, ← hK']
  clear h hb0 hm hx hgr hE hK' hN1
  go_enter Tryz.func17, Tryz.ntmps17
  go_wp2_with (go_at_call 26; refine HB.out.mono ?_; rintro e w1 ⟨rfl, hw1⟩; have hw1' := hw1.symm; clear hw1; subst hw1')
  refine HC.out.mono ?_
  rintro e w2 ⟨rfl, hr2, hb2⟩
  have HR2 := Lib.hid hr2
  have HB2 := Lib.hid hb2
  clear hr2 hb2 HB HC c2
  go_wp2_with fail
  go_loopw [21] (fun i wr => ∃ (j : Nat) (H : List Int), j ≤ q ∧ i = .int .i64 j ∧ RoomAt wr w.heap.size N1 H ∧ Below w.heap.size w wr ∧ dropR K.H l = dropR H (l.drop j)) (fun i _ => q - (intOf i).toNat)
  case atStart => exact ⟨0, K.H, Nat.zero_le _, rfl, HR2.out, HB2.out, rfl⟩
  case round =>
    obtain ⟨j, H, hj, rfl, hr, hb, hd⟩ := hrel
    have HR := Lib.hid hr
    have HBR := Lib.hid hb
    have HDR := Lib.hid hd
    clear hr hb hd
    by_cases hlt : j < q
    · have hjI : (j : Int) < (q : Int) := by omega
      have HLT := Lib.hid hlt
      have hjl : j < l.length := by rw [HM.out]; exact hlt
      obtain ⟨b, off, rfl, hbB, hcel⟩ := HX.out (by omega)
      obtain ⟨x, hx⟩ : ∃ x, l[j]? = some x := ⟨_, List.getElem?_eq_getElem hjl⟩
      have hcx : wr.cell? ⟨b, off + j, none⟩ = some (.int .i64 x) := (HBR.out.cell (p := ⟨b, off + j, none⟩) hbB).trans (hcel j x hx)
      have HST := Lib.hid (dropR_step (H := H) hx)
      clear hx hcel
      by_cases h0 : x = 0
      · have HN := Lib.hid (HNO.out (by rw [HDR.out, HST.out, if_pos (.inl h0)]))
        subst h0
        go_wp2_with fail
        go_ret
        exact ⟨by rw [HN.out.1]; rfl, by rw [HN.out.2]; exact DTurns.of_below HK.out HBR.out⟩
      by_cases h1 : x = 1
      · have HN := Lib.hid (HNO.out (by rw [HDR.out, HST.out, if_pos (.inr (.inl h1))]))
        subst h1
        go_wp2_with fail
        go_ret
        exact ⟨by rw [HN.out.1]; rfl, by rw [HN.out.2]; exact DTurns.of_below HK.out HBR.out⟩
      have b0 : (x == 0) = false := by simpa using h0
      have b1 : (x == 1) = false := by simpa using h1
      have hgt : w.heap.size < wr.heap.size := HR.out.lt
      have HGT := Lib.hid hgt
      have HGV : Hid (∀ W, W = wr.alloc (.cells #[.int .i64 x] 3) → Calls Tryz.prog 47 #[.pointer (some ⟨w.heap.size, 0, none⟩), .slice (some ⟨wr.heap.size, 0, none⟩) 1 1] W fun e w' => e = .returned (.int .i64 ((giveL H [x]).2 : Int)) ∧ RoomAt w' w.heap.size N1 (giveL H [x]).1 ∧ Below w.heap.size w w') := Lib.hid (by
        rintro W rfl
        have hbW : Below wr.heap.size wr (wr.alloc (.cells #[.int .i64 x] 3)) := (Below.refl _ _).alloc (Nat.le_refl _) _
        have hxi : Ints (wr.alloc (.cells #[.int .i64 x] 3)) (wr.alloc (.cells #[.int .i64 x] 3)).heap.size (some ⟨wr.heap.size, 0, none⟩) [x] := fun _ => ⟨wr.heap.size, 0, rfl, by simp, fun j y hy => by
          match j, hy with
          | 0, hy => simp at hy; subst hy; simp⟩
        refine (rgive_any (some ⟨wr.heap.size, 0, none⟩) 1 1 [x] (HR.out.below hbW) rfl hxi (fun a ha => by injection ha with ha; rw [← ha]; show wr.heap.size ≠ w.heap.size; have := HGT.out; omega) (by omega)).mono ?_
        rintro e w' ⟨rfl, ht⟩
        have hB : Below w.heap.size w (wr.alloc (.cells #[.int .i64 x] 3)) := HBR.out.trans (hbW.mono HBR.out.size)
        exact ⟨rfl, ht.room, ht.under hB (Nat.le_refl _) hB.size⟩)
      by_cases hin : x ∈ H
      · have eg : giveL H [x] = (dropL x H, 1) := by rw [giveL_one, if_pos hin]
        rw [eg] at HGV
        have HD2 : Hid (dropR K.H l = dropR (dropL x H) (l.drop (j + 1))) := Lib.hid (by rw [HDR.out, HST.out, if_neg (by rintro (h | h | h); exact h0 h; exact h1 h; exact h hin)])
        clear eg hin hgt
        go_wp2_with fail
        refine (HGV.out _ rfl).mono ?_
        rintro e w4 ⟨rfl, hr4, hb4⟩
        have HR4 := Lib.hid hr4
        have HB4 := Lib.hid hb4
        clear hr4 hb4 HGV
        go_wp2_with fail
        refine ⟨⟨j + 1, dropL x H, HLT.out, by go_num, HR4.out, HB4.out, HD2.out⟩, ?_⟩
        have := HLT.out
        simp [intOf]
        omega
      · have eg : giveL H [x] = (H, 0) := by rw [giveL_one, if_neg hin]
        rw [eg] at HGV
        have HN := Lib.hid (HNO.out (by rw [HDR.out, HST.out, if_pos (.inr (.inr hin))]))
        clear eg hin hgt
        go_wp2_with fail
        refine (HGV.out _ rfl).mono ?_
        rintro e w4 ⟨rfl, hr4, hb4⟩
        have HB4 := Lib.hid hb4
        clear hr4 hb4 HGV
        go_wp2_with fail
        go_ret
        exact ⟨by rw [HN.out.1]; rfl, by rw [HN.out.2]; exact DTurns.of_below HK.out HB4.out⟩
    · obtain rfl : j = q := by omega
      have HY := Lib.hid (HYES.out H (by rw [HDR.out, List.drop_of_length_le (by rw [HM.out]; exact Nat.le_refl _)]; rfl))
      have HU := Lib.hid (HUSE.out wr H HBR.out HR.out)
      go_wp2_with fail
      refine HU.out.mono ?_
      rintro e w4 ⟨rfl, hT⟩
      have HT := Lib.hid hT
      clear hT HU
      go_wp2_with fail
      go_ret
      exact ⟨by rw [HY.out.1]; rfl, by rw [HY.out.2]; exact HT.out⟩
end
open Go.RowKit Go.Lib
set_option maxRecDepth 100000 in
set_option maxHeartbeats 4000000 in
theorem sgrow_any (n : Nat) (w : World) (hn0 : 1 ≤ n) (hn : n ≤ 2000000) :
    Calls Tryz.prog 83 #[.slice none 0 0, .int .i64 (n : Int)] w fun e w' => ∃ v, e = .returned v ∧ w'.ownsRow w.heap.size 3 1 v 0 [] ∧ Below w.heap.size w w' := by
  obtain ⟨i0, hi, hz0, hz1, hz2⟩ := info_parts hints_info
  have hrz : ∀ ty, (Builtin.append_ #[39, 3] ty #[.slice none 0 0, .int .i64 (n : Int)]).run Tryz.prog w =
      .ok (.slice (some ⟨w.heap.size, 0, none⟩) n (grownCap w n 0 3)) (w.drew.alloc (.cells (Builtin.zeroCells (Value.int .i64 0).cells n ++ Builtin.zeroCells (Value.int .i64 0).cells (grownCap w n 0 3 - n)) 3)) := fun ty =>
    Lib.run_append_nil_zeros w 39 3 ty 3 i0 (.int .i64 0) .i64 .i64 Tryz.underlying39 Tryz.underlying3 hi hz0 n (by omega) (by omega) (by omega) (by rw [hz2]; omega)
  have hGn : n ≤ grownCap w n 0 3 := grownCap_ge w _ _ _
  have hGm : grownCap w n 0 3 ≤ maxLen := grownCap_le_maxLen w n 0 3 (by unfold maxLen; omega)
  have hcs : (Builtin.zeroCells (Value.int .i64 0).cells n ++ Builtin.zeroCells (Value.int .i64 0).cells (grownCap w n 0 3 - n)).size = grownCap w n 0 3 := by
    rw [Array.size_append, size_zeroCells, size_zeroCells]
    simp [Value.cells]
    omega
  obtain ⟨G, hG⟩ : ∃ G, G = grownCap w n 0 3 := ⟨_, rfl⟩
  obtain ⟨Z, hZ⟩ : ∃ Z, Z = Builtin.zeroCells (Value.int .i64 0).cells n ++ Builtin.zeroCells (Value.int .i64 0).cells (grownCap w n 0 3 - n) := ⟨_, rfl⟩
  rw [← hZ, ← hG] at hrz hcs
  rw [← hG] at hGn hGm
  have HOWN : Hid ((w.drew.alloc (.cells Z 3)).ownsRow w.heap.size 3 1 (.slice (some ⟨w.heap.size, 0, none⟩) 0 G) 0 []) := Lib.hid (by
    refine ⟨by simp, .inr ⟨w.heap.size, G, Z, rfl, Nat.le_refl _, ?_, Nat.zero_le _, hGm, by rw [hcs, Nat.mul_one], by simp⟩⟩
    exact (Blk.new w.drew 3 Z))
  have HBL : Hid (Below w.heap.size w (w.drew.alloc (.cells Z 3))) := Lib.hid ((Below.refl _ _).drew.alloc (Nat.le_refl _) _)
  have h1 : ¬ ((n : Int) < 0) := by omega
  have h3 : wrap64 (n : Int) = n := by unfold wrap64; omega
  have h4 : (n : Int) > 0 := by omega
  have hG63 : G ≤ 9223372036854775807 := by unfold maxLen at hGm; omega
  have hGI : (n : Int) ≤ (G : Int) := by omega
  clear hZ hG hcs hGm hz0 hz1 hz2 hi
  go_enter Tryz.func83, Tryz.ntmps83
  go_wp2_with (at_builtin; refine Lib.wpList_append_run _ rfl _ _ _ _ rfl _ _ rfl rfl _ _ (hrz _) ?_)
  all_goals (go_ret; exact ⟨_, rfl, HOWN.out, HBL.out⟩)
theorem own_ints {w : World} {B : Nat} {v : Value} {n : Nat} {l : List Int} (h : w.ownsRow B 3 1 v n (l.map (Value.int .i64))) : ∃ A c, v = .slice A n c ∧ l.length = n ∧ Ints w w.heap.size A l := by
  obtain ⟨hl, hv | ⟨g, cap, cur, hv, _, hc, hn, _, hs, ht⟩⟩ := h
  · obtain ⟨rfl, rfl⟩ := hv
    have : l = [] := by
      rw [List.length_map] at hl
      exact List.eq_nil_of_length_eq_zero (by omega)
    subst this
    exact ⟨none, 0, rfl, rfl, Ints.nil _ _ _⟩
  · rw [List.length_map, Nat.mul_one] at hl
    refine ⟨_, cap, hv, hl, fun _ => ⟨g, 0, rfl, ?_, fun j x hx => ?_⟩⟩
    · rcases Nat.lt_or_ge g w.heap.size with h | h
      · exact h
      · rw [Array.getElem?_eq_none h] at hc; cases hc
    · have := (World.ownsRow.cells (w := w) (base := B) (e := 3) (size := 1) (v := v) (n := n) (xs := l.map (Value.int .i64)) ⟨by rw [List.length_map]; omega, .inr ⟨g, cap, cur, hv, by assumption, hc, hn, by assumption, hs, ht⟩⟩ (g := g) (by rw [hv]; rfl)) j (.int .i64 x) (by rw [List.getElem?_map, hx]; rfl)
      rw [Go.WideShapes.add_plain, Nat.zero_add] at this
      rw [Nat.zero_add]
      exact this
set_option maxRecDepth 100000 in
set_option maxHeartbeats 4000000 in
theorem concat_any (a b : Nat) (A : Option Addr) (q c : Nat) (l : List Int) (w : World) (haw : a < w.heap.size) (hb : b < w.heap.size) (hm : l.length = q) (hx : Ints w w.heap.size A l) (hq : q ≤ 100000) (h0 : A = none → c = 0)
    (ha0 : w.cell? ⟨a, 0, none⟩ = some (.slice (some ⟨b, 0, none⟩) 2 2)) (ha1 : w.cell? ⟨a, 1, none⟩ = some (.slice A q c)) (hb0 : w.cell? ⟨b, 0, none⟩ = some (.int .i64 0)) (hb1 : w.cell? ⟨b, 1, none⟩ = some (.int .i64 1)) :
    Calls Tryz.prog 51 #[.slice (some ⟨a, 0, none⟩) 2 2] w fun e w' => ∃ A' c', e = .returned (.slice A' (2 + q) c') ∧ Ints w' w'.heap.size A' (0 :: 1 :: l) ∧ Below w.heap.size w w' := by
  obtain ⟨i0, hi, hz0, hz1, hz2⟩ := info_parts hints_info
  have HX := Lib.hid hx
  have HM := Lib.hid hm
  have H0 := Lib.hid h0
  have HAW := Lib.hid haw
  have HBW := Lib.hid hb
  have HB0 := Lib.hid hb0
  have HB1 := Lib.hid hb1
  have HA0 := Lib.hid ha0
  have HA1 := Lib.hid ha1
  obtain ⟨q2, hq2⟩ : ∃ q2, q2 = 2 + q := ⟨_, rfl⟩
  have hw2 : wrap64 (2 + (q : Int)) = (q2 : Int) := by unfold wrap64; omega
  have HQ2 := Lib.hid hq2
  have hq2I : (q2 : Int) ≤ 100002 := by omega
  have hqI : (q : Int) ≤ 100000 := by omega
  have HG := Lib.hid (sgrow_any q2 w (by omega) (by omega))
  rw [← hq2]
  clear hx hm h0 haw hb hq2 hb0 hb1
  go_enter Tryz.func51, Tryz.ntmps51
  go_wp2_with fail
  go_loopw [3, 11] (fun s i wr => w = wr ∧ ((i = .int .i64 0 ∧ s = .int .i64 0) ∨ (i = .int .i64 1 ∧ s = .int .i64 2) ∨ (i = .int .i64 2 ∧ s = .int .i64 (q2 : Int)))) (fun _ i _ => 2 - (intOf i).toNat)
  case atStart => exact ⟨rfl, .inl ⟨rfl, rfl⟩⟩
  case round =>
    obtain ⟨rfl, ⟨rfl, rfl⟩ | ⟨rfl, rfl⟩ | ⟨rfl, rfl⟩⟩ := hrel
    · go_wp2_with fail
      exact ⟨⟨trivial, .inr (.inl ⟨rfl, rfl⟩)⟩, by decide⟩
    · go_wp2_with fail
      exact ⟨⟨trivial, .inr (.inr ⟨rfl, by rw [show (q2 : Int) = 2 + q by have := HQ2.out; omega]⟩)⟩, by decide⟩
    · clear ha0 ha1
      go_wp2_with (go_at_call 83; refine HG.out.mono ?_; rintro e w1 ⟨v, rfl, ho1, hb1⟩; have HO1 := Lib.hid ho1; have HB := Lib.hid hb1; clear ho1 hb1)
      have HS : Hid (i0.zero = some (.int .i64 0) ∧ i0.size = 1 ∧ i0.bytes = 8) := Lib.hid ⟨hz0, hz1, hz2⟩
      go_loopw [6, 27] (fun v i wr => Below w.heap.size w wr ∧ ((i = .int .i64 0 ∧ wr.ownsRow w.heap.size 3 1 v 0 []) ∨ (i = .int .i64 1 ∧ wr.ownsRow w.heap.size 3 1 v 2 [.int .i64 0, .int .i64 1]) ∨ (i = .int .i64 2 ∧ wr.ownsRow w.heap.size 3 1 v q2 ((0 :: 1 :: l).map (Value.int .i64))))) (fun _ i _ => 2 - (intOf i).toNat)
      case atStart => exact ⟨HB.out, .inl ⟨rfl, HO1.out⟩⟩
      case round =>
        obtain ⟨hb, hc⟩ := hrel
        have HBR := Lib.hid hb
        have HSZ := Lib.hid hb.size
        clear hb HB HO1 HG
        rcases hc with ⟨rfl, ho⟩ | ⟨rfl, ho⟩ | ⟨rfl, ho⟩
        · have HOW := Lib.hid ho
          have hn : ∀ (j : Nat) (u : Value), [Value.int .i64 0, .int .i64 1][j]? = some u → wr.cell? ((⟨b, 0, none⟩ : Addr).add j) = some u := by
            intro j u hu
            rw [Go.WideShapes.add_plain, Nat.zero_add, HBR.out.cell (p := ⟨b, j, none⟩) HBW.out]
            match j, hu with
            | 0, hu => simp at hu; subst hu; exact HB0.out
            | 1, hu => simp at hu; subst hu; exact HB1.out
          have HN := Lib.hid hn
          have c0 : wr.cell? ⟨a, 0, none⟩ = some (.slice (some ⟨b, 0, none⟩) 2 2) := (HBR.out.cell (p := ⟨a, 0, none⟩) HAW.out).trans HA0.out
          clear ho hn hz0 hz1 hz2
          go_wp2_with (at_builtin; refine wpList_append_own _ rfl _ _ 39 rfl w.heap.size 3 i0 (.int .i64 0) 1 8 Tryz.underlying39 hi HS.out.1 HS.out.2.1 HS.out.2.2 rfl (by omega) _ 0 [] rfl HOW.out ⟨b, 0, none⟩ 2 2 [.int .i64 0, .int .i64 1] rfl rfl HN.out (fun u hu => by simp at hu; rcases hu with rfl | rfl <;> rfl) (by unfold maxLen; omega) (by omega) HSZ.out ?_; intro v1 w2 hown1 hg1 _; have HO1 := Lib.hid hown1; have HG1 := Lib.hid hg1; clear hown1 hg1)
          refine ⟨⟨HBR.out.grown HG1.out HSZ.out (fun k hk => (World.ownsRow.lt HOW.out k hk).1), .inr (.inl ⟨rfl, by simpa using HO1.out⟩)⟩, by decide⟩
        · have HOW := Lib.hid ho
          have c1 : wr.cell? ⟨a, 1, none⟩ = some (.slice A q c) := (HBR.out.cell (p := ⟨a, 1, none⟩) HAW.out).trans HA1.out
          clear ho
          rcases A with _ | ad
          · obtain rfl : c = 0 := H0.out rfl
            have hm0 : q = 0 := by
              rcases Nat.eq_zero_or_pos q with h | h
              · exact h
              · obtain ⟨b, off, e, _⟩ := HX.out (by rw [HM.out]; exact h)
                cases e
            subst hm0
            have hxs : l = [] := List.eq_nil_of_length_eq_zero HM.out
            subst hxs
            have HQ3 : Hid (q2 = 2) := Lib.hid (by have := HQ2.out; omega)
            clear hz0 hz1 hz2
            obtain ⟨_, ⟨_, hv2⟩ | ⟨g2, cap2, cur2, hv, -⟩⟩ := HOW.out
            · cases hv2
            subst hv
            have hrn : ∀ ty, (Builtin.append_ #[39, 39] ty #[.slice (some ⟨g2, 0, none⟩) 2 cap2, .slice none 0 0]).run Tryz.prog wr = .ok (.slice (some ⟨g2, 0, none⟩) 2 cap2) wr := fun ty => run_append_owned_none wr w.heap.size 39 ty 3 i0 1 Tryz.underlying39 hi _ 2 [.int .i64 0, .int .i64 1] HOW.out
            clear hi
            go_wp2_with (at_builtin; refine Lib.wpList_append_run _ rfl _ _ _ _ rfl _ _ rfl rfl _ _ (hrn _) ?_)
            refine ⟨⟨HBR.out, .inr (.inr ⟨rfl, by rw [HQ3.out]; exact HOW.out⟩)⟩, by decide⟩
          · have hn : ∀ (j : Nat) (u : Value), (l.map (Value.int .i64))[j]? = some u → wr.cell? (ad.add j) = some u := by
              intro j u hu
              have hj : j < l.length := by
                rcases Nat.lt_or_ge j l.length with h | h
                · exact h
                · rw [List.getElem?_eq_none (by rw [List.length_map]; exact h)] at hu; cases hu
              obtain ⟨b', off, e, hB, hc⟩ := HX.out (by omega)
              injection e with e
              subst e
              exact (HBR.out.cell (p := (⟨b', off, none⟩ : Addr).add j) (by rw [Go.WideShapes.add_plain]; exact hB)).trans (kints_cells hc hB j u hu)
            have hone : ∀ u ∈ l.map (Value.int .i64), u.oneCell' = true := by
              intro u hu
              obtain ⟨x, _, rfl⟩ := List.mem_map.1 hu
              rfl
            have HN := Lib.hid hn
            have HO := Lib.hid hone
            clear hn hone hz0 hz1 hz2
            go_wp2_with (at_builtin; refine wpList_append_own _ rfl _ _ 39 rfl w.heap.size 3 i0 (.int .i64 0) 1 8 Tryz.underlying39 hi HS.out.1 HS.out.2.1 HS.out.2.2 rfl (by omega) _ 2 [.int .i64 0, .int .i64 1] rfl HOW.out ad q c (l.map (Value.int .i64)) rfl (by rw [List.length_map, HM.out]; omega) HN.out HO.out (by unfold maxLen; omega) (by omega) HSZ.out ?_; intro v1 w2 hown1 hg1 _; have HO1 := Lib.hid hown1; have HG1 := Lib.hid hg1; clear hown1 hg1)
            refine ⟨⟨HBR.out.grown HG1.out HSZ.out (fun k hk => (World.ownsRow.lt HOW.out k hk).1), .inr (.inr ⟨rfl, by rw [HQ2.out]; exact HO1.out⟩)⟩, by decide⟩
        · obtain ⟨A', c', rfl, _, hI⟩ := own_ints ho
          have HI := Lib.hid hI
          clear ho hI hz0 hz1 hz2
          go_wp2_with fail
          go_ret
          exact ⟨A', c', rfl, HI.out, HBR.out⟩
def StayOk (K : KD) (l : List Int) : Prop := ∀ x ∈ 0 :: 1 :: l, 0 ≤ x ∧ x < ((K.S.now.length - 111 : Nat) : Int)
noncomputable def stayE (K : KD) (l : List Int) : Int := by classical exact if StayOk K l then 0 else 15
noncomputable def stayK (K : KD) (l : List Int) : KD := by classical exact if StayOk K l then useK K (putEach (0 :: 1 :: l)) else K
theorem stay_yes {K : KD} {l : List Int} (h : StayOk K l) : stayE K l = 0 ∧ stayK K l = useK K (putEach (0 :: 1 :: l)) := by simp [stayE, stayK, h]
theorem stay_no {K : KD} {l : List Int} (h : ¬ StayOk K l) : stayE K l = 15 ∧ stayK K l = K := by simp [stayE, stayK, h]
section
variable {w w' : World} {P : List Nat} {g gw gm gr gd m : Nat} {O : List Nat} {K : KD}
set_option maxRecDepth 100000 in
set_option maxHeartbeats 4000000 in
theorem kkeep_any (A : Option Addr) (q c : Nat) (l : List Int) (h : DeskAt w P g gd m K) (hb0 : K.bad = 0) (hn0 : 112 ≤ K.S.now.length) (hm : l.length = q) (hx : Ints w w.heap.size A l) (hq : q ≤ 100000) (h0 : A = none → c = 0) :
    Calls Tryz.prog 19 #[.pointer (some ⟨g, 0, none⟩), .slice A q c] w fun e w' => e = .returned (.int .i64 (stayE K l)) ∧ DTurns P g gd m (stayK K l) w w' := by
  have HK := Lib.hid h
  have HB := Lib.hid (kbad_any h)
  rw [hb0] at HB
  have HP : Hid (∀ b ∈ P, b < w.heap.size) := Lib.hid (fun b hb => HK.out.lt hb)
  have HY : Hid (StayOk K l → stayE K l = 0 ∧ stayK K l = useK K (putEach (0 :: 1 :: l))) := Lib.hid stay_yes
  have HN : Hid (¬ StayOk K l → stayE K l = 15 ∧ stayK K l = K) := Lib.hid stay_no
  obtain ⟨N1, hN1⟩ : ∃ N1, N1 = K.S.now.length - 111 := ⟨_, rfl⟩
  have HSO : Hid ((∀ x ∈ 0 :: 1 :: l, 0 ≤ x ∧ x < (N1 : Int)) ↔ StayOk K l) := Lib.hid (by rw [hN1]; exact Iff.rfl)
  have hN0 : 1 ≤ N1 := by omega
  obtain ⟨gr, O, hd⟩ : ∃ gr, ∃ gw gm O, P = g :: gw :: gm :: gr :: O ∧ DeskIs w g gw gm gr gd m O K := by
    obtain ⟨gw, gm, gr, O, e, hd⟩ := h
    exact ⟨gr, gw, gm, O, e, hd⟩
  obtain ⟨gm, O, -, hd⟩ := hd
  have hN2 : N1 ≤ 1900 := by rw [hN1]; exact hd.room.size
  have HSI := Lib.hid (size_any hd.room)
  rw [← hN1] at HSI
  have c2 : w.cell? ⟨g, 2, none⟩ = some (.pointer (some ⟨gr, 0, none⟩)) := by
    have := hd.blk.cell 2
    simpa [deskC] using this
  have HUSE : Hid (∀ (w1 : World) (r : Nat) (H : List Int), Below w.heap.size w w1 → w.heap.size ≤ r → RoomAt w1 r N1 H → Calls Tryz.prog 48 #[.pointer (some ⟨g, 0, none⟩), .pointer (some ⟨r, 0, none⟩)] w1 fun e w' => e = .returned (.tuple #[]) ∧ DTurns P g gd m (useK K H) w w') := Lib.hid (by
    intro w1 r H hb hrw hr
    rw [hN1] at hr
    refine (kuse_any (HK.out.below hb) hr (fun hm => by have := HP.out _ hm; omega)).mono ?_
    rintro e w' ⟨rfl, P', a1, a2, a3⟩
    refine ⟨rfl, P', a1, fun b hb' => ?_, (Keep.of_below hb).trans' a3⟩
    rcases a2 b hb' with h | h
    · exact .inl h
    · exact .inr (by omega))
  have HCON : Hid (∀ W, W = (w.alloc (.cells #[.int .i64 0, .int .i64 1] 3)).alloc (.cells #[.slice (some ⟨w.heap.size, 0, none⟩) 2 2, .slice A q c] 39) → Calls Tryz.prog 51 #[.slice (some ⟨w.heap.size + 1, 0, none⟩) 2 2] W fun e w' => ∃ A' c', e = .returned (.slice A' (2 + q) c') ∧ Ints w' w'.heap.size A' (0 :: 1 :: l) ∧ Below w.heap.size w w') := Lib.hid (by
    rintro W hW
    have hb1 : Below w.heap.size w (w.alloc (.cells #[.int .i64 0, .int .i64 1] 3)) := (Below.refl _ _).alloc (Nat.le_refl _) _
    have hbW : Below w.heap.size w W := by rw [hW]; exact hb1.alloc (by simp) _
    have hsW : W.heap.size = w.heap.size + 2 := by rw [hW]; simp
    have B0 : Blk W w.heap.size 3 #[.int .i64 0, .int .i64 1] := by rw [hW]; exact (Blk.new w 3 _).alloc _
    have B1 : Blk W (w.heap.size + 1) 39 #[.slice (some ⟨w.heap.size, 0, none⟩) 2 2, .slice A q c] := by
      rw [hW]
      have := Blk.new (w.alloc (.cells #[.int .i64 0, .int .i64 1] 3)) 39 #[.slice (some ⟨w.heap.size, 0, none⟩) 2 2, .slice A q c]
      simpa using this
    have hxW : Ints W W.heap.size A l := (hx.keep (fun p hp => hbW.cell hp)).more (by omega)
    have b0 := B0.cell 0
    have b1 := B0.cell 1
    have a0 := B1.cell 0
    have a1 := B1.cell 1
    refine (concat_any (w.heap.size + 1) w.heap.size A q c l W (by omega) (by omega) hm hxW hq h0 (by simpa using a0) (by simpa using a1) (by simpa using b0) (by simpa using b1)).mono ?_
    rintro e w' ⟨A', c', rfl, i1, i2⟩
    exact ⟨A', c', rfl, i1, hbW.trans (i2.mono hbW.size)⟩)
  have hn2 : (2 + q : Nat) ≤ 1000000 := by omega
  have HLEN : Hid ((0 :: 1 :: l).length = 2 + q) := Lib.hid (by rw [List.length_cons, List.length_cons, hm]; omega)
  have HNB := Lib.hid (And.intro hN0 (And.intro hN2 hn2))
  obtain ⟨E, hE⟩ : ∃ E, E = stayE K l := ⟨_, rfl⟩
  obtain ⟨K', hK'⟩ : ∃ K', K' = stayK K l := ⟨_, rfl⟩
  rw [← hE, ← hK'] at HY HN ⊢
  clear h hb0 hm hx h0 hd hE hK' hN1 hN0 hN2 hn2
  go_enter Tryz.func19, Tryz.ntmps19
  go_wp2_with (go_at_call 26; refine HB.out.mono ?_; rintro e w1 ⟨rfl, hw1⟩; have hw1' := hw1.symm; clear hw1; subst hw1')
  refine HSI.out.mono ?_
  rintro e w1 ⟨rfl, hw1⟩
  subst hw1
  go_wp2_with fail
  refine (HCON.out _ rfl).mono ?_
  rintro e w2 ⟨A', c', rfl, hi2, hb2⟩
  have HI2 := Lib.hid hi2
  have HB2 := Lib.hid hb2
  clear hi2 hb2 HB HSI c2
  go_wp2_with fail
  refine (rnew_any N1 A' (2 + q) c' (0 :: 1 :: l) w2 HNB.out.1 HNB.out.2.1 HLEN.out HI2.out HNB.out.2.2).mono ?_
  rintro e w3 ⟨hb3, ⟨hy, rfl, hr3⟩ | ⟨hy, rfl⟩⟩
  · have HYY := Lib.hid (HY.out (HSO.out.1 hy))
    have HU := Lib.hid (HUSE.out w3 w2.heap.size _ (HB2.out.trans (hb3.mono HB2.out.size)) HB2.out.size hr3)
    clear hy hr3 hb3
    go_wp2_with fail
    refine HU.out.mono ?_
    rintro e w4 ⟨rfl, hT⟩
    have HT := Lib.hid hT
    clear hT HU
    go_wp2_with fail
    go_ret
    exact ⟨by rw [HYY.out.1]; rfl, by rw [HYY.out.2]; exact HT.out⟩
  · have HNN := Lib.hid (HN.out (fun k => hy (HSO.out.2 k)))
    have HB3 := Lib.hid (HB2.out.trans (hb3.mono HB2.out.size))
    clear hy hb3
    go_wp2_with fail
    go_ret
    exact ⟨by rw [HNN.out.1]; rfl, by rw [HNN.out.2]; exact DTurns.of_below HK.out HB3.out⟩
end
def MkP (V : List (Option Value)) (ci cj B m n : Nat) (F : Int → ByteArray) (H : List Int) (i : Nat) (v : Value) (w : World) : Prop :=
  (∀ u, V[i]? = some (some u) → v = u) ∧ (i = ci → ∃ b, v = .map (some b) ∧ B ≤ b ∧ MapW w b m F) ∧ (i = cj → ∃ b, v = .pointer (some ⟨b, 0, none⟩) ∧ B ≤ b ∧ RoomAt w b n H)
theorem MkP.below {V : List (Option Value)} {ci cj B m n : Nat} {F : Int → ByteArray} {H : List Int} {i : Nat} {v : Value} {w w' : World} (h : MkP V ci cj B m n F H i v w) (hb : Below w.heap.size w w') : MkP V ci cj B m n F H i v w' := by
  obtain ⟨h1, h2, h3⟩ := h
  refine ⟨h1, fun e => ?_, fun e => ?_⟩
  · obtain ⟨b, e1, e2, e3⟩ := h2 e
    exact ⟨b, e1, e2, e3.below hb⟩
  · obtain ⟨b, e1, e2, e3⟩ := h3 e
    exact ⟨b, e1, e2, e3.below hb⟩
def MkJ (V : List (Option Value)) (ci cj m n : Nat) (F : Int → ByteArray) (H : List Int) (W : World) (L : Nat → Bool) (f : Nat → Value) (w : World) : Prop :=
  Below W.heap.size W w ∧ ∀ i, L i = true → MkP V ci cj W.heap.size m n F H i (f i) w
section
variable {V : List (Option Value)} {ci cj m n : Nat} {F : Int → ByteArray} {H : List Int} {W w w' : World} {L : Nat → Bool} {f : Nat → Value} {i : Nat} {v : Value}
theorem MkJ.put (h : MkJ V ci cj m n F H W L f w) (hb : Below w.heap.size w w') (hp : MkP V ci cj W.heap.size m n F H i v w') : MkJ V ci cj m n F H W (fun j => if i = j then true else L j) (fun j => if i = j then v else f j) w' := by
  refine ⟨h.1.trans (hb.mono h.1.size), fun j hj => ?_⟩
  by_cases e : i = j
  · subst e
    simpa using hp
  · simp only [if_neg e] at hj ⊢
    exact (h.2 j hj).below hb
theorem MkJ.same (h : MkJ V ci cj m n F H W L f w) (hv : V[i]? = some (some v)) (h1 : i ≠ ci) (h2 : i ≠ cj) : MkJ V ci cj m n F H W (fun j => if i = j then true else L j) (fun j => if i = j then v else f j) w :=
  h.put (Below.refl _ _) ⟨fun u hu => by rw [hv] at hu; injection hu with hu; injection hu, fun e => absurd e h1, fun e => absurd e h2⟩
theorem mclone_any {b : Nat} (h : MapW w b m F) : Calls Tryz.prog 52 #[.map (some b)] w fun e w' => e = .returned (.map (some w.heap.size)) ∧ MapW w' w.heap.size m F ∧ Below w.heap.size w w' := by
  obtain ⟨D, h1, h2⟩ := h
  refine (AnyW.maps_Clone_owns h_clone 3 heldR b m D w h1).mono ?_
  rintro e w' ⟨rfl, a, _, b⟩
  exact ⟨rfl, ⟨D, a, h2⟩, b⟩
end
def MarkAt (w : World) (B st g m n : Nat) (sy : Int) (F : Int → ByteArray) (H : List Int) : Prop :=
  ∃ mb rb, B ≤ st ∧ B ≤ mb ∧ B ≤ rb ∧ Blk w st 92 #[.pointer (some ⟨g, 0, none⟩), .int .i64 sy, .map (some mb), .pointer (some ⟨rb, 0, none⟩)] ∧ MapW w mb m F ∧ RoomAt w rb n H
theorem MarkAt.below {w w' : World} {B st g m n : Nat} {sy : Int} {F : Int → ByteArray} {H : List Int} (h : MarkAt w B st g m n sy F H) (hb : Below w.heap.size w w') : MarkAt w' B st g m n sy F H := by
  obtain ⟨mb, rb, h1, h2, h3, h4, h5, h6⟩ := h
  exact ⟨mb, rb, h1, h2, h3, h4.below hb h4.lt, h5.below hb, h6.below hb⟩
theorem mark_var {W : World} {b : Nat} {p : Option Addr} (hb : Blk W b 46 #[.pointer p]) :
    (loadVar 46 ⟨b, 0, none⟩).run Tryz.prog W = .ok (.agg #[.pointer p]) W :=
  run_var_part (off := 0) hb (fun j v h => by rw [Nat.zero_add]; exact h) (fun w => by kernel_rfl) (fun w => by kernel_rfl)
section
variable {w w' : World} {P : List Nat} {g gw gm gr gd m : Nat} {O : List Nat} {K : KD}
set_option maxRecDepth 100000 in
set_option maxHeartbeats 4000000 in
theorem deskmark_any (h : DeskAt w P g gd m K) :
    Calls Tryz.prog 20 #[.pointer (some ⟨g, 0, none⟩)] w fun e w' => ∃ st, e = .returned (.agg #[.pointer (some ⟨st, 0, none⟩)]) ∧ MarkAt w' w.heap.size st g m (K.S.now.length - 111) K.syncs K.F K.H ∧ Below w.heap.size w w' := by
  obtain ⟨gw, gm, gr, O, rfl, h⟩ := h
  obtain ⟨N1, hN1⟩ : ∃ N1, N1 = K.S.now.length - 111 := ⟨_, rfl⟩
  obtain ⟨W, hW⟩ : ∃ W, W = w.alloc (.cells #[.pointer none] 46) := ⟨_, rfl⟩
  have hbW : Below w.heap.size w W := by rw [hW]; exact (Below.refl _ _).alloc (Nat.le_refl _) _
  have hsW : W.heap.size = w.heap.size + 1 := by rw [hW]; simp
  have hBW : Blk W w.heap.size 46 #[.pointer none] := by rw [hW]; exact Blk.new w 46 _
  have hV := h.kept (fun b hb => hbW.block b (h.lt hb))
  have HGB : Hid (g < W.heap.size) := Lib.hid hV.blk.lt
  obtain ⟨sy, hsy⟩ : ∃ sy, sy = K.syncs := ⟨_, rfl⟩
  have c1 := hV.blk.cell 1
  have c2 := hV.blk.cell 2
  have c4 := hV.blk.cell 4
  simp [deskC] at c1 c2 c4
  rw [← hsy] at c4
  have HC1 := Lib.hid c1
  have HC2 := Lib.hid c2
  have HC4 := Lib.hid c4
  have HCL : Hid (∀ w', Below W.heap.size W w' → Calls Tryz.prog 52 #[.map (some gm)] w' fun e w'' => e = .returned (.map (some w'.heap.size)) ∧ MapW w'' w'.heap.size m K.F ∧ Below w'.heap.size w' w'') := Lib.hid (fun w' hb => mclone_any (hV.map.below hb))
  have HCO : Hid (∀ w', Below W.heap.size W w' → Calls Tryz.prog 46 #[.pointer (some ⟨gr, 0, none⟩)] w' fun e w'' => e = .returned (.pointer (some ⟨w'.heap.size, 0, none⟩)) ∧ RoomAt w'' w'.heap.size N1 K.H ∧ Below w'.heap.size w' w'') := Lib.hid (fun w' hb => by rw [hN1]; exact rcopy_any (hV.room.below hb))
  have HBW := Lib.hid hBW
  have HbW := Lib.hid hbW
  have HSW := Lib.hid hsW
  rw [← hN1, ← hsy]
  clear hN1 hV h c1 c2 c4 hBW hbW hsW hsy
  go_enter Tryz.func20, Tryz.ntmps20
  go_upto_region 3 with fail
  rw [← hW]
  refine wp_region_phase 6 15 20 4 (MkJ [some (.pointer (some ⟨g, 0, none⟩)), some (.pointer (some ⟨g, 0, none⟩)), some (.pointer (some ⟨g, 0, none⟩)), some (.pointer (some ⟨g, 4, none⟩)), some (.int .i64 sy), some (.pointer (some ⟨g, 0, none⟩)), some (.pointer (some ⟨g, 0, none⟩)), some (.pointer (some ⟨g, 1, none⟩)), some (.map (some gm)), none, some (.pointer (some ⟨g, 0, none⟩)), some (.pointer (some ⟨g, 0, none⟩)), some (.pointer (some ⟨g, 2, none⟩)), some (.pointer (some ⟨gr, 0, none⟩)), none] 9 14 m N1 K.F K.H W) (by kernel_rfl) (by kernel_rfl) rfl (by omega) (by kernel_rfl) rfl (by simp) ?h0 ?hops ?hrest
  case h0 => exact ⟨(Below.refl _ _).drew, fun _ h => by cases h⟩
  case hops =>
    intro o ho L f y w' hF hLo hJ hw hy
    have HJ := Lib.hid hJ
    clear hJ
    rcases (show o = 0 ∨ o = 1 ∨ o = 2 ∨ o = 3 ∨ o = 4 ∨ o = 5 ∨ o = 6 ∨ o = 7 ∨ o = 8 ∨ o = 9 ∨ o = 10 ∨ o = 11 ∨ o = 12 ∨ o = 13 ∨ o = 14 by omega) with rfl | rfl | rfl | rfl | rfl | rfl | rfl | rfl | rfl | rfl | rfl | rfl | rfl | rfl | rfl
    · have e0 : y.tmps[0]?.getD undef = .pointer (some ⟨g, 0, none⟩) := by rw [hF.2.2 0 (by omega)]; rfl
      clear hw hy hF
      refine wpOp_value (v := .pointer (some ⟨g, 0, none⟩)) (w' := w') rfl rfl ?_ ⟨_, rfl, HJ.out.same rfl (by decide) (by decide)⟩
      go_simp
    · have e0 : y.tmps[0]?.getD undef = .pointer (some ⟨g, 0, none⟩) := by rw [hF.2.2 0 (by omega)]; rfl
      clear hw hy hF
      refine wpOp_value (v := .pointer (some ⟨g, 0, none⟩)) (w' := w') rfl rfl ?_ ⟨_, rfl, HJ.out.same rfl (by decide) (by decide)⟩
      go_simp
    · have e7 : y.tmps[7]?.getD undef = .pointer (some ⟨g, 0, none⟩) := (hy 1 (by omega) (hw 1 (of_decide_eq_true (by kernel_rfl)))).trans ((HJ.out.2 1 (hw 1 (of_decide_eq_true (by kernel_rfl)))).1 _ rfl)
      clear hw hy hF
      refine wpOp_value (v := .pointer (some ⟨g, 0, none⟩)) (w' := w') rfl rfl ?_ ⟨_, rfl, HJ.out.same rfl (by decide) (by decide)⟩
      go_simp
    · have e8 : y.tmps[8]?.getD undef = .pointer (some ⟨g, 0, none⟩) := (hy 2 (by omega) (hw 2 (of_decide_eq_true (by kernel_rfl)))).trans ((HJ.out.2 2 (hw 2 (of_decide_eq_true (by kernel_rfl)))).1 _ rfl)
      clear hw hy hF
      refine wpOp_value (v := .pointer (some ⟨g, 4, none⟩)) (w' := w') rfl rfl ?_ ⟨_, rfl, HJ.out.same rfl (by decide) (by decide)⟩
      go_simp
    · have e9 : y.tmps[9]?.getD undef = .pointer (some ⟨g, 4, none⟩) := (hy 3 (by omega) (hw 3 (of_decide_eq_true (by kernel_rfl)))).trans ((HJ.out.2 3 (hw 3 (of_decide_eq_true (by kernel_rfl)))).1 _ rfl)
      have c4 := (HJ.out.1.cell (p := ⟨g, 4, none⟩) HGB.out).trans HC4.out
      clear hw hy hF
      refine wpOp_value (v := .int .i64 sy) (w' := w') rfl rfl ?_ ⟨_, rfl, HJ.out.same rfl (by decide) (by decide)⟩
      go_simp
    · have e0 : y.tmps[0]?.getD undef = .pointer (some ⟨g, 0, none⟩) := by rw [hF.2.2 0 (by omega)]; rfl
      clear hw hy hF
      refine wpOp_value (v := .pointer (some ⟨g, 0, none⟩)) (w' := w') rfl rfl ?_ ⟨_, rfl, HJ.out.same rfl (by decide) (by decide)⟩
      go_simp
    · have e11 : y.tmps[11]?.getD undef = .pointer (some ⟨g, 0, none⟩) := (hy 5 (by omega) (hw 5 (of_decide_eq_true (by kernel_rfl)))).trans ((HJ.out.2 5 (hw 5 (of_decide_eq_true (by kernel_rfl)))).1 _ rfl)
      clear hw hy hF
      refine wpOp_value (v := .pointer (some ⟨g, 0, none⟩)) (w' := w') rfl rfl ?_ ⟨_, rfl, HJ.out.same rfl (by decide) (by decide)⟩
      go_simp
    · have e12 : y.tmps[12]?.getD undef = .pointer (some ⟨g, 0, none⟩) := (hy 6 (by omega) (hw 6 (of_decide_eq_true (by kernel_rfl)))).trans ((HJ.out.2 6 (hw 6 (of_decide_eq_true (by kernel_rfl)))).1 _ rfl)
      clear hw hy hF
      refine wpOp_value (v := .pointer (some ⟨g, 1, none⟩)) (w' := w') rfl rfl ?_ ⟨_, rfl, HJ.out.same rfl (by decide) (by decide)⟩
      go_simp
    · have e13 : y.tmps[13]?.getD undef = .pointer (some ⟨g, 1, none⟩) := (hy 7 (by omega) (hw 7 (of_decide_eq_true (by kernel_rfl)))).trans ((HJ.out.2 7 (hw 7 (of_decide_eq_true (by kernel_rfl)))).1 _ rfl)
      have c1 := (HJ.out.1.cell (p := ⟨g, 1, none⟩) HGB.out).trans HC1.out
      clear hw hy hF
      refine wpOp_value (v := .map (some gm)) (w' := w') rfl rfl ?_ ⟨_, rfl, HJ.out.same rfl (by decide) (by decide)⟩
      go_simp
    · have e14 : y.tmps[14]?.getD undef = .map (some gm) := (hy 8 (by omega) (hw 8 (of_decide_eq_true (by kernel_rfl)))).trans ((HJ.out.2 8 (hw 8 (of_decide_eq_true (by kernel_rfl)))).1 _ rfl)
      clear hw hy hF
      refine wpOp_call (f := 52) (args := #[.map (some gm)]) rfl rfl (by go_simp) ((HCL.out w' HJ.out.1).mono ?_)
      rintro e w'' ⟨rfl, hm, hb⟩
      exact ⟨_, rfl, _, rfl, HJ.out.put hb ⟨(fun _ h => by cases h), fun _ => ⟨_, rfl, HJ.out.1.size, hm⟩, fun h => by cases h⟩⟩
    · have e0 : y.tmps[0]?.getD undef = .pointer (some ⟨g, 0, none⟩) := by rw [hF.2.2 0 (by omega)]; rfl
      clear hw hy hF
      refine wpOp_value (v := .pointer (some ⟨g, 0, none⟩)) (w' := w') rfl rfl ?_ ⟨_, rfl, HJ.out.same rfl (by decide) (by decide)⟩
      go_simp
    · have e16 : y.tmps[16]?.getD undef = .pointer (some ⟨g, 0, none⟩) := (hy 10 (by omega) (hw 10 (of_decide_eq_true (by kernel_rfl)))).trans ((HJ.out.2 10 (hw 10 (of_decide_eq_true (by kernel_rfl)))).1 _ rfl)
      clear hw hy hF
      refine wpOp_value (v := .pointer (some ⟨g, 0, none⟩)) (w' := w') rfl rfl ?_ ⟨_, rfl, HJ.out.same rfl (by decide) (by decide)⟩
      go_simp
    · have e17 : y.tmps[17]?.getD undef = .pointer (some ⟨g, 0, none⟩) := (hy 11 (by omega) (hw 11 (of_decide_eq_true (by kernel_rfl)))).trans ((HJ.out.2 11 (hw 11 (of_decide_eq_true (by kernel_rfl)))).1 _ rfl)
      clear hw hy hF
      refine wpOp_value (v := .pointer (some ⟨g, 2, none⟩)) (w' := w') rfl rfl ?_ ⟨_, rfl, HJ.out.same rfl (by decide) (by decide)⟩
      go_simp
    · have e18 : y.tmps[18]?.getD undef = .pointer (some ⟨g, 2, none⟩) := (hy 12 (by omega) (hw 12 (of_decide_eq_true (by kernel_rfl)))).trans ((HJ.out.2 12 (hw 12 (of_decide_eq_true (by kernel_rfl)))).1 _ rfl)
      have c2 := (HJ.out.1.cell (p := ⟨g, 2, none⟩) HGB.out).trans HC2.out
      clear hw hy hF
      refine wpOp_value (v := .pointer (some ⟨gr, 0, none⟩)) (w' := w') rfl rfl ?_ ⟨_, rfl, HJ.out.same rfl (by decide) (by decide)⟩
      go_simp
    · have e19 : y.tmps[19]?.getD undef = .pointer (some ⟨gr, 0, none⟩) := (hy 13 (by omega) (hw 13 (of_decide_eq_true (by kernel_rfl)))).trans ((HJ.out.2 13 (hw 13 (of_decide_eq_true (by kernel_rfl)))).1 _ rfl)
      clear hw hy hF
      refine wpOp_call (f := 46) (args := #[.pointer (some ⟨gr, 0, none⟩)]) rfl rfl (by go_simp) ((HCO.out w' HJ.out.1).mono ?_)
      rintro e w'' ⟨rfl, hm, hb⟩
      exact ⟨_, rfl, _, rfl, HJ.out.put hb ⟨(fun _ h => by cases h), (fun h => by cases h), fun _ => ⟨_, rfl, HJ.out.1.size, hm⟩⟩⟩
  case hrest =>
    intro L f w' hL hJ
    obtain ⟨hJ1, hJ2⟩ := hJ
    have f0 : f 0 = .pointer (some ⟨g, 0, none⟩) := (hJ2 0 (hL 0 (by omega))).1 _ rfl
    have f4 : f 4 = .int .i64 sy := (hJ2 4 (hL 4 (by omega))).1 _ rfl
    obtain ⟨mb, f9, hmb, hmw⟩ := (hJ2 9 (hL 9 (by omega))).2.1 rfl
    obtain ⟨rb, f14, hrb, hrw⟩ := (hJ2 14 (hL 14 (by omega))).2.2 rfl
    have HM := Lib.hid hmw
    have HR := Lib.hid hrw
    have HJ1 := Lib.hid hJ1
    have HMB := Lib.hid hmb
    have HRB := Lib.hid hrb
    have hB0 : Blk w' w.heap.size 46 #[.pointer none] := HBW.out.below hJ1 (by have := HSW.out; omega)
    have HB0 := Lib.hid hB0
    have c0 := hB0.cell 0
    have q0 := hB0.frozen 0
    have hlt := hB0.lt
    simp at c0
    clear hL hJ1 hJ2 hmw hrw hmb hrb hB0
    rw [show List.range' 15 4 = [15, 16, 17, 18] from rfl]
    simp only [putAll, List.range, List.range.loop, List.foldl, Nat.reduceAdd, List.setIfInBounds_toArray, List.set_cons_succ, List.set_cons_zero, f0, f4, f9, f14]
    clear f0 f4 f9 f14
    rw [wpOps_cons]
    refine wpOp_value (v := .agg #[.pointer (some ⟨g, 0, none⟩), .int .i64 sy, .map (some mb), .pointer (some ⟨rb, 0, none⟩)]) (w' := w') rfl rfl (by go_simp) ?_
    change wpOps _ _ _ [16, 17, 18] (Act.put _ (some 21) _) _
    simp only [Act.put, List.setIfInBounds_toArray, List.set_cons_succ, List.set_cons_zero]
    rw [wpOps_cons]
    refine wpOp_value (v := .pointer (some ⟨w'.heap.size, 0, none⟩)) (w' := w'.alloc (.cells #[.pointer (some ⟨g, 0, none⟩), .int .i64 sy, .map (some mb), .pointer (some ⟨rb, 0, none⟩)] 92)) rfl rfl (by go_simp) ?_
    change wpOps _ _ _ [17, 18] (Act.put _ (some 22) _) _
    simp only [Act.put, List.setIfInBounds_toArray, List.set_cons_succ, List.set_cons_zero]
    rw [wpOps_cons]
    refine wpOp_value (v := .agg #[.pointer (some ⟨w'.heap.size, 0, none⟩)]) (w' := w'.alloc (.cells #[.pointer (some ⟨g, 0, none⟩), .int .i64 sy, .map (some mb), .pointer (some ⟨rb, 0, none⟩)] 92)) rfl rfl (by go_simp) ?_
    change wpOps _ _ _ [18] (Act.put _ (some 23) _) _
    simp only [Act.put, List.setIfInBounds_toArray, List.set_cons_succ, List.set_cons_zero]
    rw [wpOps_cons]
    refine wpOp_skip (w' := (w'.alloc (.cells #[.pointer (some ⟨g, 0, none⟩), .int .i64 sy, .map (some mb), .pointer (some ⟨rb, 0, none⟩)] 92)).setCell ⟨w.heap.size, 0, none⟩ (.pointer (some ⟨w'.heap.size, 0, none⟩))) rfl rfl (by go_simp) ?_
    simp only [wpOps, Act.put, List.setIfInBounds_toArray]
    clear c0 q0
    have HLT := Lib.hid hlt
    obtain ⟨W2, hW2⟩ : ∃ W2, W2 = w'.alloc (.cells #[.pointer (some ⟨g, 0, none⟩), .int .i64 sy, .map (some mb), .pointer (some ⟨rb, 0, none⟩)] 92) := ⟨_, rfl⟩
    rw [← hW2]
    have hb2 : Below w'.heap.size w' W2 := by rw [hW2]; exact (Below.refl _ _).alloc (Nat.le_refl _) _
    have hst : Blk W2 w'.heap.size 92 #[.pointer (some ⟨g, 0, none⟩), .int .i64 sy, .map (some mb), .pointer (some ⟨rb, 0, none⟩)] := by rw [hW2]; exact Blk.new w' _ _
    obtain ⟨W3, hW3⟩ : ∃ W3, W3 = W2.setCell ⟨w.heap.size, 0, none⟩ (.pointer (some ⟨w'.heap.size, 0, none⟩)) := ⟨_, rfl⟩
    rw [← hW3]
    have hv3 : Blk W3 w.heap.size 46 #[.pointer (some ⟨w'.heap.size, 0, none⟩)] := by
      rw [hW3]
      exact (HB0.out.below hb2 hlt).put 0 _
    have hM3 : MarkAt W3 w.heap.size w'.heap.size g m N1 sy K.F K.H := by
      have h1 := HJ1.out.size
      have h2 := HSW.out
      have h3 := HMB.out
      have h4 := HRB.out
      refine ⟨mb, rb, by omega, by omega, by omega, ?_, ?_, ?_⟩
      · rw [hW3]; exact Blk.far hst (fun e => by have e : w'.heap.size = w.heap.size := e; omega) _
      · refine (HM.out.below hb2).kept ?_
        rw [hW3]
        exact Below.heap_setCell _ _ _ _ (fun e => by have e : mb = w.heap.size := e; omega)
      · have := HR.out.below hb2
        exact ⟨by rw [hW3]; exact Blk.far this.blk (fun e => by have e : rb = w.heap.size := e; omega) _, this.ok, this.size⟩
    have hb3 : Below w.heap.size w W3 := by
      rw [hW3]
      exact ((HbW.out.trans (HJ1.out.mono HbW.out.size)).trans (hb2.mono (by omega))).setCell (Nat.le_refl _) _
    have HV3 := Lib.hid hv3
    have HM3 := Lib.hid hM3
    have HB3 := Lib.hid hb3
    clear hW hW2 hW3 hv3 hM3 hb3 hst hb2 hlt
    go_wp2_with fail
    refine ret_cell rfl rfl (mark_var HV3.out) rfl ?_
    exact ⟨_, rfl, HM3.out, HB3.out⟩
end
end Go.Proofs.YtiagofgcinlnhaaGreatDoor
