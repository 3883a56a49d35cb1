/-
  A chain on a fresh Desk: what each call tells of one that was put; the statements' first call. No statement is proved here.
-/
import Derived.Test.YtolbnkpakjdnnaaGreatDoorLinkOn
import Derived.Test.YtolbnkpakjdnnaaGreatDoorLinkGet
import Derived.Test.YtolbnkpakjdnnaaGreatDoorLinkSec
import Derived.Test.YtolbnkpakjdnnaaGreatDoorLinkRefs
import Derived.Test.YtolbnkpakjdnnaaGreatDoorIntsView
import Derived.Test.YtolbnkpakjdnnaaGreatDoorViews
namespace Go.Proofs.YtolbnkpakjdnnaaGreatDoor
open Go.RowKit

section
variable {K : KD} {gen tag refs : Int} {b : ByteArray} {ps : List Int}
theorem linksC_cons {n : Nat} (h : 0 < n) : ∃ r, linksC gen tag refs b ps n = (linkAt gen tag refs b ps 0).put (ps.getD 0 0) :: r := by
  obtain ⟨i, rfl⟩ : ∃ i, n = i + 1 := ⟨n - 1, by omega⟩
  unfold linksC
  rw [List.range_succ_eq_map, List.map_cons]
  exact ⟨_, rfl⟩
theorem bs_text_ne {x : LK} (h : x.Ok) : bs x.text ≠ .empty := fun e => by
  have := bs_size x.text
  rw [e, h.text_len] at this
  exact absurd this (by decide)
theorem on_getR (hc : ChainOn K.F gen tag refs b ps) : ∀ j, j < ps.length → getR K (ps.getD j 0) = (K.F (ps.getD j 0), 0) := fun j hj => by
  unfold getR
  rw [if_pos (by rw [hc.laid j hj]; exact bs_text_ne (hc.ok hj))]
theorem on_chainR (hc : ChainOn K.F gen tag refs b ps) : chainR K (ps.getD 0 0) = (linksC gen tag refs b ps ps.length, 0) := walk_all hc (on_getR hc)
theorem on_getC (hc : ChainOn K.F gen tag refs b ps) : getC (chainR K (ps.getD 0 0)) = (gen, tag, refs, b) := by
  rw [on_chainR hc]
  unfold getC
  rw [if_neg (by simp)]
  obtain ⟨r, hr⟩ := linksC_cons (gen := gen) (tag := tag) (refs := refs) (b := b) (ps := ps) (n := ps.length) (by have := hc.count; omega)
  show ((linksC gen tag refs b ps ps.length).headD LK.zero |>.gen, _, _, joinC (linksC gen tag refs b ps ps.length)) = _
  rw [join_whole hc.len]
  show ((linksC gen tag refs b ps ps.length).headD LK.zero |>.gen, (linksC gen tag refs b ps ps.length).headD LK.zero |>.tag, (linksC gen tag refs b ps ps.length).headD LK.zero |>.refs, b) = _
  rw [hr]
  rfl
theorem on_firstC (hc : ChainOn K.F gen tag refs b ps) : firstC K (ps.getD 0 0) = (linkAt gen tag refs b ps 0).put (ps.getD 0 0) := by
  unfold firstC
  rw [on_chainR hc]
  obtain ⟨r, hr⟩ := linksC_cons (gen := gen) (tag := tag) (refs := refs) (b := b) (ps := ps) (n := ps.length) (by have := hc.count; omega)
  show (linksC gen tag refs b ps ps.length).headD LK.zero = _
  rw [hr]
  rfl
theorem on_secs (hc : ChainOn K.F gen tag refs b ps) : secsC (chainR K (ps.getD 0 0)) = ps := by
  rw [on_chainR hc]
  unfold secsC
  rw [if_neg (by simp)]
  unfold linksC
  rw [List.map_map]
  apply List.ext_getElem?
  intro i
  rw [List.getElem?_map]
  rcases Nat.lt_or_ge i ps.length with h | h
  · rw [List.getElem?_range h, List.getElem?_eq_getElem h]
    show some (ps.getD i 0) = _
    rw [List.getD_eq_getElem?_getD, List.getElem?_eq_getElem h]
    rfl
  · rw [List.getElem?_eq_none (by simpa using h), List.getElem?_eq_none h]
    rfl
end
section
variable {w0 w : World} {g gd m N : Nat} {K : KD} {Ms : List MK} {h : List ByteArray} {c : Nat} {gen tag : Int} {b : ByteArray}
/-- A Put for which there is room. -/
structure PutYes (w0 w' : World) (g gd m N : Nat) (K : KD) (Ms : List MK) (h : List ByteArray) (c : Nat) (gen tag : Int) (b : ByteArray) (K' : KD) (ps : List Int) : Prop where
  st : DMk w0 w' g gd (m + 40) N K' Ms
  run : Run11 N K' h c
  on : ChainOn K'.F gen tag 1 b ps
  left : PutOn N gen tag b (needN b.size) K 0 K' (ps.getD 0 0) ps
theorem kput_yes (s : DMk w0 w g gd m N K Ms) (r : Run11 N K h c) (hm : m ≤ 900000) (hf : fitsC gen tag = true) (hb : b.size ≤ 9440) (hroom : K.H.length + needN b.size ≤ N - 111) :
    Calls Tryz.prog 14 #[.pointer (some ⟨g, 0, none⟩), .int .i64 gen, .int .i64 tag, .string b] w fun e w' => ∃ K' ps, e = .returned (.tuple #[.int .i64 (ps.getD 0 0), .int .i64 0]) ∧ PutYes w0 w' g gd m N K Ms h c gen tag b K' ps := by
  refine (kput_chain s r hm gen tag b (by omega)).mono ?_
  intro e w' p
  cases p with
  | arg a1 a2 a3 => rw [hf] at a1; cases a1
  | long a1 a2 a3 a4 => omega
  | full a1 a2 a3 a4 a5 =>
    have := (put_none _ K 0 r.hok).1 a3
    omega
  | done a1 a2 K' t a3 a4 a5 a6 =>
    obtain ⟨ps, q1, rfl, q3⟩ := put_chain r.ok.dim.2 r.hok r.ok.zero r.ok.one hf hb a3
    exact ⟨K', ps, a4, a5, a6, q1, q3⟩
set_option maxRecDepth 100000 in
set_option maxHeartbeats 4000000 in
/-- The law's Fresh. -/
theorem fresh12_any {N : Nat} (hN : 140 ≤ N ∧ N ≤ 400) (w0 w : World) (hb : Below w0.heap.size w0 w) :
    Calls Tryz.prog 11 #[.int .i64 (N : Int)] w fun e w' => ∃ g gd K h, e = .returned (.pointer (some ⟨g, 0, none⟩)) ∧ DMk w0 w' g gd 1 N K [] ∧ Fresh11 N K h := by
  have HN := Lib.hid (dnew_yes (N : Int) N w rfl (by omega) (by omega))
  have HMK : Hid (∀ (w1 : World) (gd : Nat) (O : List Nat), DiskAt w1 O gd (DS.fresh N (zeroB 256)) → (∀ b ∈ O, w0.heap.size ≤ b) → Below w0.heap.size w0 w1 → Calls Tryz.prog 32 #[.pointer (some ⟨gd, 0, none⟩)] w1 fun e w' => ∃ g K h, e = .returned (.tuple #[.pointer (some ⟨g, 0, none⟩), .int .i64 0]) ∧ DSt w0 w' g gd 1 K ∧ Fresh11 N K h) := Lib.hid (fun w1 gd O hd hO hb => (make_any hN w0 w1 hb hd hO).mono (fun e w' ⟨g, h, he, hs, hf⟩ => ⟨g, _, h, he, hs, hf⟩))
  have HB := Lib.hid hb
  clear hb
  go_enter Tryz.func11, Tryz.ntmps11
  go_wp2_with fail
  refine HN.out.mono ?_
  rintro e w1 ⟨gd, O, rfl, hd, hO, hb1⟩
  have HF1 := Lib.hid (HMK.out w1 gd O hd (fun b hb => Nat.le_trans HB.out.size (hO b hb)) (HB.out.trans (hb1.mono HB.out.size)))
  clear hd hO hb1 HMK HN
  go_wp2_with fail
  refine HF1.out.mono ?_
  rintro e w2 ⟨g, K, h, rfl, hs2, hf⟩
  have HS2 := Lib.hid hs2
  have HF := Lib.hid hf
  obtain ⟨gw, c0, -, -, -⟩ := hs2.wal
  clear hs2 hf HF1
  go_wp2_with fail
  go_ret
  exact ⟨g, gd, K, h, rfl, DMk.of HS2.out, HF.out⟩
theorem fresh_len {N : Nat} {K : KD} {h : List ByteArray} (f : Fresh11 N K h) : K.H.length = 2 := by rw [f.H]; rfl
set_option maxRecDepth 100000 in
set_option maxHeartbeats 8000000 in
theorem alive12_any (w : World) : Calls Tryz.prog 10 #[] w fun e w' => e = .returned (.bool true) ∧ Below w.heap.size w w' := by
  have HFR := Lib.hid (fresh12_any (N := 150) (by omega) w w (Below.refl _ _))
  obtain ⟨Z, hZ⟩ : ∃ Z, Z = zeroB 237 := ⟨_, rfl⟩
  have hmk : ∀ W : World, (Instr.makeSlice 57 (.int .i64 237) (.int .i64 237)).run Tryz.prog W = .ok (.slice (some ⟨W.heap.size, 0, none⟩) 237 237) (W.alloc (.cells (Lib.byteCells Z.data.toList).toArray 5)) := fun W => by rw [hZ]; exact zeros_make W 237 (by omega)
  have hcv : ∀ W : World, (convert 57 9 (.slice (some ⟨W.heap.size, 0, none⟩) 237 237)).run Tryz.prog (W.alloc (.cells (Lib.byteCells Z.data.toList).toArray 5)) = .ok (.string Z) (W.alloc (.cells (Lib.byteCells Z.data.toList).toArray 5)) := fun W => by rw [hZ]; exact zeros_convert W 237
  have HZS : Hid (Z.size = 237) := Lib.hid (by rw [hZ]; exact zeroB_size 237)
  have hzs : (Z.size : Int) = 237 := by rw [HZS.out]; rfl
  have HND := Lib.hid (fun w1 => lkneed_any 237 w1 (by omega))
  clear hZ
  go_enter Tryz.func10, Tryz.ntmps10
  go_wp2_with fail
  refine HFR.out.mono ?_
  rintro e w1 ⟨g, gd, K, h, rfl, hs1, hf⟩
  have HS1 := Lib.hid (hs1.below ((Below.refl w1.heap.size w1).alloc (Nat.le_refl _) (.cells (Lib.byteCells Z.data.toList).toArray 5)))
  have HP := Lib.hid (kput_yes (gen := 1) (tag := 5) (b := Z) HS1.out hf.run (by omega) (by decide) (by rw [HZS.out]; omega) (by rw [fresh_len hf, HZS.out]; decide))
  clear hs1 hf HFR HS1
  go_wp2_with fail
  refine HP.out.mono ?_
  rintro e w2 ⟨K2, ps, rfl, hp⟩
  have HPY := Lib.hid hp
  have hon := hp.on
  have HON := Lib.hid hon
  have hp0 := hon.range _ (hon.mem (i := 0) (by have := hon.count; omega))
  have HSE := Lib.hid (csectors_any (t0 := ps.getD 0 0) hp.st.st hp.run (by unfold I64; omega))
  have HGT := Lib.hid (fun w1 (hb : Below w2.heap.size w2 w1) => cget_any (t0 := ps.getD 0 0) (hp.st.st.below hb) hp.run (by unfold I64; omega))
  rw [on_secs hon, on_chainR hon] at HSE
  rw [on_getC hon, on_chainR hon] at HGT
  have hl2 : ps.length = 2 := by rw [hon.len, HZS.out]; rfl
  rw [hl2] at HSE
  have HL2 := Lib.hid hl2
  obtain ⟨p0, hp00⟩ : ∃ p0, p0 = ps.getD 0 0 := ⟨_, rfl⟩
  rw [← hp00] at HSE HGT
  have HP0 : Hid (ps[0]? = some p0) := Lib.hid (by rw [hp00, List.getD_eq_getElem?_getD, List.getElem?_eq_getElem (by rw [HL2.out]; omega)]; rfl)
  rw [← hp00]
  clear hp hon hp0 hl2 hp00 HP hmk hcv
  go_wp2_with fail
  refine HSE.out.mono ?_
  rintro e w3 ⟨A, c, rfl, hrow, -, hb3⟩
  obtain ⟨gr, cap, e1, _, hlt⟩ := hrow.form (by omega)
  injection e1 with e1 _ e3
  subst e1 e3
  have HB3 : Hid (Below w2.heap.size w2 w3) := Lib.hid hb3
  have HROW := Lib.hid hrow
  have HBW : Hid (Below w.heap.size w w3) := Lib.hid (HPY.out.st.st.at0.trans (hb3.mono HPY.out.st.st.at0.size))
  have HGT2 := Lib.hid (HGT.out w3 hb3)
  clear hrow hb3 hlt HSE HGT
  go_wp2_with fail
  refine HGT2.out.mono ?_
  rintro e w4 ⟨rfl, hb4⟩
  have hc0 := row_cell (row_below HROW.out hb4) (i := 0) (u := .int .i64 p0) (by rw [List.getElem?_map, HP0.out]; rfl)
  have HBX : Hid (Below w.heap.size w w4) := Lib.hid (HBW.out.trans (hb4.mono HBW.out.size))
  have hlt4 : gr < w4.heap.size := World.block_lt_of_cell? _ _ hc0
  have hc1 := (World.cell?_alloc_lt w4 (.cells #[.int .i64 1, .int .i64 5, .int .i64 1, .string Z] 43) ⟨gr, 0, none⟩ hlt4).trans hc0
  have hpp : (p0 == p0) = true := by simp
  show _
  clear hc0 hlt4 hb4 HGT2
  unfold chV
  go_wp2_with (go_at_call 26; refine (HND.out _).mono ?_; rintro e w5 ⟨rfl, rfl⟩)
  go_ret
  exact ⟨rfl, HBX.out.alloc HBX.out.size _⟩
end
end Go.Proofs.YtolbnkpakjdnnaaGreatDoor
