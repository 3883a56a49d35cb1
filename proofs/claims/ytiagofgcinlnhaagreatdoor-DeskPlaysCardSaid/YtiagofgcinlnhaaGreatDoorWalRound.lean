/-
  Package wal's laws: what is written at a time; a set of places. No statement is proved here.
-/
import Derived.Test.YtiagofgcinlnhaaGreatDoorWalAlive
import Derived.Test.YtiagofgcinlnhaaGreatDoorHeadRead
import Derived.Maps.StringElems
namespace Go.Proofs.YtiagofgcinlnhaaGreatDoor
open Go.RowKit
def redoL (X : List ByteArray) : Nat → List Int → List Wr1
  | _, [] => []
  | k, t :: r => (111 + t, X.getD (1 + k) .empty) :: redoL X (k + 1) r
theorem redoL_len (X : List ByteArray) (ts : List Int) : ∀ k, (redoL X k ts).length = ts.length := by
  induction ts with
  | nil => intro k; rfl
  | cons t r ih => intro k; simp [redoL, ih]
theorem redoL_at (X : List ByteArray) (ts : List Int) : ∀ k, ∀ x ∈ redoL X k ts, ∃ (j : Nat) (t : Int), x = (111 + t, X.getD (1 + j) .empty) ∧ k ≤ j ∧ j < k + ts.length ∧ t ∈ ts ∧ ts[j - k]? = some t := by
  induction ts with
  | nil => intro k x hx; cases hx
  | cons t r ih =>
    intro k x hx
    rcases List.mem_cons.1 hx with rfl | hx
    · exact ⟨k, t, rfl, Nat.le_refl _, by simp, by simp, by simp⟩
    · obtain ⟨j, u, e, h1, h2, h3, h4⟩ := ih (k + 1) x hx
      refine ⟨j, u, e, by omega, by simp only [List.length_cons]; omega, by simp [h3], ?_⟩
      rw [show j - k = (j - (k + 1)) + 1 by omega, List.getElem?_cons_succ]
      exact h4
structure RowTo (w : World) (g tn : Nat) (l : List Wr1) (j : Nat) : Prop where
  ex : ∃ C : List Value, Blk w g 90 C.toArray ∧ C.length = tn * 2 ∧ C.take (j * 2) = flatI (l.take j)
theorem RowTo.below {w w' : World} {g tn j : Nat} {l : List Wr1} (h : RowTo w g tn l j) (hb : Below w.heap.size w w') : RowTo w' g tn l j := by
  obtain ⟨C, h1, h2, h3⟩ := h.ex
  exact ⟨C, h1.below hb h1.lt, h2, h3⟩
theorem RowTo.next {w : World} {g tn j : Nat} {l : List Wr1} {x : Wr1} (h : RowTo w g tn l j) (hx : l[j]? = some x) (hj : j < tn) :
    ∃ u0 u1, w.cell? ⟨g, j * 2, none⟩ = some u0 ∧ w.cell? ⟨g, j * 2 + 1, none⟩ = some u1 ∧ w.frozen? ⟨g, j * 2, none⟩ = false ∧ w.frozen? ⟨g, j * 2 + 1, none⟩ = false ∧ g < w.heap.size ∧
      RowTo ((w.setCell ⟨g, j * 2, none⟩ (.int .i64 x.1)).setCell ⟨g, j * 2 + 1, none⟩ (.string x.2)) g tn l (j + 1) := by
  obtain ⟨C, h1, h2, h3⟩ := h.ex
  refine ⟨C[j * 2]'(by omega), C[j * 2 + 1]'(by omega), ?_, ?_, h1.frozen _, h1.frozen _, h1.lt, (C.set (j * 2) (.int .i64 x.1)).set (j * 2 + 1) (.string x.2), ?_, by simpa using h2, ?_⟩
  · rw [h1.cell, List.getElem?_toArray, List.getElem?_eq_getElem]
  · rw [h1.cell, List.getElem?_toArray, List.getElem?_eq_getElem]
  · have := (h1.put (j * 2) (.int .i64 x.1)).put (j * 2 + 1) (.string x.2)
    simpa using this
  · have e : l.take (j + 1) = l.take j ++ [x] := by rw [List.take_add_one, hx]; rfl
    rw [e, flatI_snoc, ← h3]
    rw [show (j + 1) * 2 = j * 2 + 1 + 1 by omega]
    have hl : j * 2 + 1 < ((C.set (j * 2) (.int .i64 x.1)).set (j * 2 + 1) (.string x.2)).length := by simp; omega
    have hl0 : j * 2 < ((C.set (j * 2) (.int .i64 x.1)).set (j * 2 + 1) (.string x.2)).length := by simp; omega
    rw [List.take_succ_eq_append_getElem hl, List.take_succ_eq_append_getElem hl0]
    rw [List.getElem_set_self, List.getElem_set_ne (by omega), List.getElem_set_self, List.take_set_of_le (by omega), List.take_set_of_le (Nat.le_refl _)]
    simp
theorem RowTo.wrts {w : World} {g tn : Nat} {l : List Wr1} {O : List Nat} (h : RowTo w g tn l tn) (hl : l.length = tn) (hO : g ∉ O) : Wrts w O (some ⟨g, 0, none⟩) l := fun _ => by
  obtain ⟨C, h1, h2, h3⟩ := h.ex
  rw [List.take_of_length_le (by omega), List.take_of_length_le (by omega)] at h3
  subst h3
  refine ⟨g, 0, rfl, h1.lt, hO, fun j x hx => ?_⟩
  obtain ⟨q1, q2⟩ := flatI_get hx
  rw [h1.cell, h1.cell, List.getElem?_toArray, List.getElem?_toArray, show 0 + j * 2 = 2 * j by omega]
  exact ⟨q1, q2⟩
structure RedoOk (N : Nat) (q : Int) (X : List ByteArray) (T : List Int) : Prop where
  len : X.length = N
  dim : 140 ≤ N ∧ N ≤ 2000
  few : T.length ≤ 110
  range : ∀ t ∈ T, 0 ≤ t ∧ 111 + t < (N : Int)
  seq : 0 ≤ q ∧ q ≤ 1099511627776
  size : ∀ k, k < T.length → (X.getD (1 + k) .empty).size = 256
  small : ∀ x ∈ X, x.size ≤ 100000
def redoS (X : List ByteArray) (q : Int) (T : List Int) : List ByteArray := setI (setI X (redoL X 0 T)) [(0, doneB q)]
theorem RedoOk.fits {N : Nat} {q : Int} {X : List ByteArray} {T : List Int} (h : RedoOk N q X T) : ∀ g ∈ [redoL X 0 T, [(0, doneB q)]], Fit N g := by
  intro g hg x hx
  simp only [List.mem_cons, List.not_mem_nil, or_false] at hg
  rcases hg with rfl | rfl
  · obtain ⟨j, t, rfl, h1, h2, h3, h4⟩ := redoL_at X T 0 x hx
    have := h.range t h3
    exact ⟨by simp only; omega, by simp only; omega, h.size j (by omega)⟩
  · rw [List.mem_singleton.1 hx]
    have := h.dim
    exact ⟨by simp, by simp only; omega, doneB_size h.seq.1 h.seq.2⟩
set_option maxRecDepth 100000 in
set_option maxHeartbeats 1000000 in
theorem wredo_any {w : World} {gw gd N c tn n : Nat} {q k : Int} {O : List Nat} {X : List ByteArray} {T : List Int} (A : Option Addr) (hok : RedoOk N q X T) (h : Blk w gw 101 (walC gd q true k)) (hd : DiskAt w O gd (calm X n)) (hgw : gw ∉ O)
    (hT : T.length = tn) (hA : Ints w w.heap.size A T) (hn : n < 800000000000) :
    Calls Tryz.prog 102 #[.pointer (some ⟨gw, 0, none⟩), .agg #[.int .i64 q, .bool true, .slice A tn c]] w fun e w' => e = .returned (.int .i64 0) ∧ Turns O gd (calm (redoS X q T) (n + (tn + 1))) w w' := by
  obtain ⟨i1, hi1, hy0, hy1, hy2⟩ := info_parts clwrites_info
  have HOK := Lib.hid hok
  have HW := Lib.hid h
  have HDK := Lib.hid hd
  have HGW := Lib.hid hgw
  have HT := Lib.hid hT
  have HA := Lib.hid hA
  have HOL : Hid (∀ b ∈ O, b < w.heap.size) := Lib.hid (fun b hb => hd.lt hb)
  have htn : (tn : Int) ≤ 110 := by have := hok.few; omega
  have HI := Lib.hid hi1
  have HN := Lib.hid hn
  have HHAS : Hid (∀ wx, Below w.heap.size w wx → ∀ t ∈ T, Calls Tryz.prog 103 #[.pointer (some ⟨gw, 0, none⟩), .int .i64 t] wx fun e w' => e = .returned (.bool true) ∧ wx = w') := Lib.hid (fun wx hx t ht => by
    have := whas_any t (h.below hx h.lt) (hd.below hx) hok.len (by have := hok.dim; omega) (by have := hok.dim; omega)
    rw [decide_eq_true (by have := hok.range t ht; omega)] at this
    exact this)
  have HREAD : Hid (∀ wx, Below w.heap.size w wx → ∀ j, j < tn → Calls Tryz.prog 100 #[.pointer (some ⟨gd, 0, none⟩), .int .i64 (1 + (j : Int))] wx fun e w' => e = .returned (.tuple #[.string (X.getD (1 + j) .empty), .int .i64 0]) ∧ Below wx.heap.size wx w') := Lib.hid (fun wx hx j hj => by
    have := dread_any (1 + (j : Int)) (hd.below hx) hok.small
    have hlt : 1 + j < X.length := by have := hok.len; have := hok.dim; have := hok.few; omega
    have e := calm_read (n := n) (List.getElem?_eq_getElem hlt)
    rw [show ((1 + j : Nat) : Int) = 1 + (j : Int) by omega] at e
    rw [e.1, e.2] at this
    rw [List.getD_eq_getElem?_getD, List.getElem?_eq_getElem hlt]
    exact this)
  have HDONE : Hid (∀ wx, Calls Tryz.prog 93 #[.agg #[.int .i64 q, .bool true, .slice A tn c]] wx fun e w' => e = .returned (.agg #[.int .i64 q, .bool false, .slice none 0 0]) ∧ Below wx.heap.size wx w') := Lib.hid (fun wx => by
    rw [← hT]
    exact hdone_any (HD.mk q true T) A c wx)
  have HSEC : Hid (∀ wx, Calls Tryz.prog 92 #[.agg #[.int .i64 q, .bool false, .slice none 0 0]] wx fun e w' => ∃ b, e = .returned (.tuple #[.slice (some ⟨b, 0, none⟩) 1 1, .int .i64 0]) ∧ Blk w' b 90 #[.int .i64 0, .string (doneB q)] ∧ wx.heap.size ≤ b ∧ Below wx.heap.size wx w') := Lib.hid (fun wx => by
    refine (wsector_any (HD.mk q false []) none 0 wx ⟨Ints.nil _ _ _, by show 0 ≤ _; omega⟩).mono ?_
    rintro e w' ⟨b, Y, k', rfl, hs, r1, r2, r3⟩
    unfold secIs at hs
    rw [if_pos (valid_done hok.seq.1 hok.seq.2)] at hs
    obtain ⟨rfl, rfl⟩ := hs
    exact ⟨b, rfl, r1, r2, r3⟩)
  clear hok h hd hgw hT hA hi1 hn
  go_enter Tryz.func102, Tryz.ntmps102
  go_upto_region 1 with fail
  obtain ⟨w1, hw1⟩ : ∃ w1, w1 = w.alloc (.cells #[.int .i64 q, .bool true, .slice A tn c] 99) := ⟨_, rfl⟩
  obtain ⟨gb, hgb⟩ : ∃ gb, gb = w.heap.size := ⟨_, rfl⟩
  rw [← hw1, ← hgb]
  have HB1 : Hid (Below w.heap.size w w1) := Lib.hid (by rw [hw1]; exact (Below.refl _ _).alloc (Nat.le_refl _) _)
  have HH1 : Hid (Blk w1 gb 99 #[.int .i64 q, .bool true, .slice A tn c]) := Lib.hid (by rw [hw1, hgb]; exact Blk.new w _ _)
  have HGB : Hid (w.heap.size ≤ gb) := Lib.hid (by omega)
  clear hw1 hgb
  obtain ⟨w2, hmk, hown, hgr⟩ := run_make_full (P := Tryz.prog) w1 w1.heap.size 73 90 i1 (.agg #[.int .i64 0, .string .empty]) 2 Tryz.underlying73 HI.out hy0 hy1 .i64 .i64 tn (by rw [hy2]; omega) (by unfold maxLen; omega) (Nat.le_refl _)
  obtain ⟨ga, hga⟩ : ∃ ga, ga = w1.heap.size := ⟨_, rfl⟩
  rw [← hga] at hmk hown
  have HR2 : Hid (RowTo w2 ga tn (redoL X 0 T) 0) := Lib.hid (by
    rcases hown.2 with ⟨h, _⟩ | ⟨g', cap, cur, h, _, hg, h1, h2, h3, _⟩
    · cases h
    · injection h with h4 _ h5
      injection h4 with h4
      injection h4 with h4 _ _
      subst h4 h5
      exact ⟨cur.toList, by simpa using (show Blk w2 ga _ cur from hg), by simpa using h3, by simp [flatI]⟩)
  have HB12 : Hid (Below w1.heap.size w1 w2) := Lib.hid ⟨hgr.os, hgr.tape, hgr.output, hgr.size, fun b hb => hgr.block b hb (fun e => by cases e)⟩
  have HH2 := Lib.hid (HH1.out.below HB12.out HH1.out.lt)
  have HB2 : Hid (Below w.heap.size w w2) := Lib.hid (HB1.out.trans (HB12.out.mono HB1.out.size))
  have HGA : Hid (w.heap.size ≤ ga ∧ ga ≠ gb) := Lib.hid ⟨by rw [hga]; exact HB1.out.size, by have := HH1.out.lt; omega⟩
  have c2 := HH1.out.cell 2
  simp at c2
  clear hown hgr hga
  go_upto_region 2 with fail
  have c2 := HH2.out.cell 2
  simp at c2
  clear hmk
  go_wp2_with fail
  clear c2
  go_loopw [19] (fun i wr => ∃ j : Nat, j ≤ tn ∧ i = .int .i64 j ∧ RowTo wr ga tn (redoL X 0 T) j ∧ Blk wr gb 99 #[.int .i64 q, .bool true, .slice A tn c] ∧ Below w.heap.size w wr) (fun i _ => tn - (intOf i).toNat)
  case atStart => exact ⟨0, Nat.zero_le _, rfl, HR2.out, HH2.out, HB2.out⟩
  case round =>
    obtain ⟨j, hj, rfl, hr, hh, hb⟩ := hrel
    have HR := Lib.hid hr
    have HH := Lib.hid hh
    have HB := Lib.hid hb
    clear hr hh hb HR2 HH2 HB2
    by_cases hlt : j < tn
    · have hjl : j < T.length := by rw [HT.out]; exact hlt
      obtain ⟨b, off, rfl, hbb, hc⟩ := HA.out (by omega)
      obtain ⟨t, ht⟩ : ∃ t, t = T[j] := ⟨_, rfl⟩
      have htj : T[j]? = some t := by rw [ht]; exact List.getElem?_eq_getElem hjl
      have htm := List.mem_of_getElem? htj
      have hct : wr.cell? ⟨b, off + j, none⟩ = some (.int .i64 t) := (HB.out.cell (p := ⟨b, off + j, none⟩) hbb).trans (hc j t htj)
      have HHJ := Lib.hid (HHAS.out wr HB.out t htm)
      have HRJ := Lib.hid (HREAD.out wr HB.out j hlt)
      obtain ⟨D, hD⟩ : ∃ D, D = X.getD (1 + j) .empty := ⟨_, rfl⟩
      rw [← hD] at HRJ
      have hx : (redoL X 0 T)[j]? = some (111 + t, D) := by
        have h1 : T.take (j + 1) = T.take j ++ [t] := by rw [List.take_add_one, htj]; rfl
        have h2 : T = T.take j ++ (t :: T.drop (j + 1)) := by rw [ht, ← List.drop_eq_getElem_cons hjl, List.take_append_drop]
        have h3 : ∀ (a b : List Int) (k : Nat), redoL X k (a ++ b) = redoL X k a ++ redoL X (k + a.length) b := by
          intro a
          induction a with
          | nil => intro b k; simp [redoL]
          | cons u r ih => intro b k; simp only [List.cons_append, redoL, ih, List.length_cons]; rw [show k + 1 + r.length = k + (r.length + 1) by omega]
        rw [h2, h3, List.getElem?_append_right (by rw [redoL_len, List.length_take]; omega), redoL_len]
        have h4 : (T.take j).length = j := by rw [List.length_take]; omega
        rw [h4, Nat.sub_self]
        show some (111 + t, X.getD (1 + (0 + j)) .empty) = _
        rw [Nat.zero_add, ← hD]
      have HX := Lib.hid hx
      have hwal := HW.out.below HB.out HW.out.lt
      have c0 := hwal.cell 0
      simp [walC] at c0
      have hr := HOK.out.range t htm
      have hd := HOK.out.dim
      obtain ⟨r0, r1⟩ := hr
      have r2 : t ≤ 2000 := by omega
      have hjI : (j : Int) < (tn : Int) := by omega
      clear hx hjl ht htj htm hc hbb hwal hD r1 hd
      go_upto_region 7 with (go_at_call 103; refine HHJ.out.mono ?_; rintro e w3 ⟨rfl, rfl⟩)
      go_wp2_with fail
      refine HRJ.out.mono ?_
      rintro e w3 ⟨rfl, hb3⟩
      have HB3 := Lib.hid (HB.out.trans (hb3.mono HB.out.size))
      have HH3 := Lib.hid (HH.out.below hb3 HH.out.lt)
      obtain ⟨u0, u1, a0, a1, f0, f1, hgal, hrn⟩ := (HR.out.below hb3).next HX.out hlt
      have HRN := Lib.hid hrn
      clear hb3 hrn c0 hct
      go_wp2_with fail
      go_roundw
      case rel =>
        refine ⟨j + 1, by omega, by go_num, HRN.out, ?_, (HB3.out.setCell HGA.out.1 _).setCell HGA.out.1 _⟩
        exact (HH3.out.far (p := ⟨ga, j * 2, none⟩) (fun e => HGA.out.2 e.symm) _).far (p := ⟨ga, j * 2 + 1, none⟩) (fun e => HGA.out.2 e.symm) _
      case measure => simp [intOf]; omega
    · obtain rfl : tn = j := by omega
      have c0 := HH.out.cell 0
      have c1 := HH.out.cell 1
      have c2 := HH.out.cell 2
      simp at c0 c1 c2
      go_wp2_with fail
      refine (HDONE.out _).mono ?_
      rintro e w3 ⟨rfl, hb3⟩
      have HB3 := Lib.hid (HB.out.trans (hb3.mono HB.out.size))
      have HR3 := Lib.hid (HR.out.below hb3)
      clear hb3 c0 c1 c2
      go_wp2_with fail
      refine (HSEC.out _).mono ?_
      rintro e w4 ⟨b2, rfl, hs2, hsb2, hb4⟩
      have HS4 := Lib.hid hs2
      have HSB : Hid (w.heap.size ≤ b2) := Lib.hid (Nat.le_trans HB3.out.size hsb2)
      have HB4 := Lib.hid (HB3.out.trans (hb4.mono HB3.out.size))
      have HR4 := Lib.hid (HR3.out.below hb4)
      clear hs2 hsb2 hb4
      go_wp2_with fail
      obtain ⟨wp, hwp⟩ : ∃ wp, wp = w4.alloc (.cells #[.slice (some ⟨ga, 0, none⟩) tn tn, .slice (some ⟨b2, 0, none⟩) 1 1] 73) := ⟨_, rfl⟩
      obtain ⟨bg, hbg⟩ : ∃ bg, bg = w4.heap.size := ⟨_, rfl⟩
      rw [← hwp, ← hbg]
      have hB4P : Below w4.heap.size w4 wp := by rw [hwp]; exact (Below.refl _ _).alloc (Nat.le_refl _) _
      have hGP : Blk wp bg 73 #[.slice (some ⟨ga, 0, none⟩) tn tn, .slice (some ⟨b2, 0, none⟩) 1 1] := by rw [hwp, hbg]; exact Blk.new w4 _ _
      have hBWP : Below w.heap.size w wp := HB4.out.trans (hB4P.mono HB4.out.size)
      have hrl : (redoL X 0 T).length = tn := by rw [redoL_len]; exact HT.out
      have hput := wput_any (bg := bg) (m := 2) (c := 2) [⟨some ⟨ga, 0, none⟩, tn, redoL X 0 T⟩, ⟨some ⟨b2, 0, none⟩, 1, [(0, doneB q)]⟩] (HW.out.below hBWP HW.out.lt) (HDK.out.below hBWP) (calm_ok X n) HGW.out rfl (fun j x hx => by
        match j, hx with
        | 0, hx =>
          injection hx with hx
          subst hx
          refine ⟨?_, (HR4.out.below hB4P).wrts hrl (fun hm => by have := HOL.out _ hm; have := HGA.out.1; omega), by show (redoL X 0 T).length ≤ _; omega⟩
          unfold WI.val
          simp only
          rw [hrl]
          exact hGP.cell 0
        | 1, hx =>
          injection hx with hx
          subst hx
          exact ⟨hGP.cell 1, blk_wrts (HS4.out.below hB4P HS4.out.lt) HOL.out HSB.out, by show 1 ≤ _; omega⟩) hGP.lt (fun hm => by have := HOL.out _ hm; have := HB4.out.size; omega) (by omega) (show (0 : Nat) ≤ 9223372036854775807 by decide) (show n < 900000000000 by have := HN.out; omega) (show (0 : Nat) < 900000000000 by decide)
      obtain ⟨p1, p2⟩ := calm_put [redoL X 0 T, [(0, doneB q)]] X n (fun g hg => by rw [HOK.out.len]; exact HOK.out.fits g hg)
      simp only [List.map_cons, List.map_nil] at hput
      rw [p1, p2] at hput
      have HPUT := Lib.hid hput
      have HBWP := Lib.hid hBWP
      clear hput p1 p2 hwp hbg hB4P hGP hBWP
      refine HPUT.out.mono ?_
      rintro e w5 ⟨rfl, hT5⟩
      have HT5 := Lib.hid hT5
      clear hT5
      go_wp2_with fail
      go_ret
      refine ⟨rfl, ?_⟩
      have e : n + sumL [redoL X 0 T, [(0, doneB q)]] = n + (tn + 1) := by unfold sumL; simp only [List.foldr_cons, List.foldr_nil, hrl, List.length_cons, List.length_nil]
      have h5 := HT5.out
      rw [e] at h5
      exact Turns.after HBWP.out h5
def OpenedAt (O : List Nat) (gd gw : Nat) (S : DS) (q : Int) (w w' : World) : Prop :=
  ∃ O', DiskAt w' O' gd S ∧ (∀ b ∈ O', b ∈ O ∨ w.heap.size ≤ b) ∧ Keep O w w' ∧ Blk w' gw 101 (walC gd q true 0) ∧ w.heap.size ≤ gw ∧ gw ∉ O'
theorem OpenedAt.after {O : List Nat} {gd gw : Nat} {S1 S : DS} {q : Int} {w w1 w' : World} (hT : Turns O gd S1 w w1) (h : ∀ O1, DiskAt w1 O1 gd S1 → OpenedAt O1 gd gw S q w1 w') : OpenedAt O gd gw S q w w' := by
  obtain ⟨O1, d1, d2, d3⟩ := hT
  obtain ⟨O2, e1, e2, e3, e4, e5, e6⟩ := h O1 d1
  refine ⟨O2, e1, fun b hb => ?_, d3.trans e3 d2, e4, Nat.le_trans d3.size e5, e6⟩
  rcases e2 b hb with hb | hb
  · exact d2 b hb
  · exact .inr (Nat.le_trans d3.size hb)
theorem OpenedAt.of_plain {O : List Nat} {gd gw : Nat} {S : DS} {q : Int} {w w' : World} (hd : DiskAt w O gd S) (h1 : Blk w' gw 101 (walC gd q true 0)) (h2 : w.heap.size ≤ gw) (h3 : Below w.heap.size w w') : OpenedAt O gd gw S q w w' :=
  ⟨O, hd.below h3, fun b hb => .inl hb, Keep.of_below h3, h1, h2, fun hm => by have := hd.lt hm; omega⟩
set_option maxRecDepth 100000 in
set_option maxHeartbeats 2000000 in
theorem wopen_full {w : World} {gd N n : Nat} {q : Int} {O : List Nat} {X : List ByteArray} {T : List Int} (hd : DiskAt w O gd (calm X n)) (hok : RedoOk N q X T) (hv : (HD.mk q true T).validB = true) (hX : X[0]? = some (fullB q T)) (hn : n < 800000000000) :
    Calls Tryz.prog 57 #[.pointer (some ⟨gd, 0, none⟩)] w fun e w' => ∃ gw, e = .returned (.tuple #[.pointer (some ⟨gw, 0, none⟩), .int .i64 0]) ∧ OpenedAt O gd gw (calm (redoS X q T) (n + (T.length + 1))) q w w' := by
  obtain ⟨tn, htn⟩ : ∃ tn, tn = T.length := ⟨_, rfl⟩
  rw [← htn]
  obtain ⟨b, hb⟩ : ∃ b, b = fullB q T := ⟨_, rfl⟩
  rw [← hb] at hX
  have hr0 := calm_read (n := n) hX
  have HR : Hid (Calls Tryz.prog 100 #[.pointer (some ⟨gd, 0, none⟩), .int .i64 0] w fun e w' => e = .returned (.tuple #[.string b, .int .i64 0]) ∧ Below w.heap.size w w') := Lib.hid (by
    have := dread_any 0 hd hok.small
    have e1 : (calm X n).read 0 = b := hr0.1
    have e2 : (calm X n).errR 0 = 0 := hr0.2
    rw [e1, e2] at this
    exact this)
  have HRD : Hid (∀ W, Calls Tryz.prog 101 #[.string b] W fun e w' => ∃ A c, e = .returned (.tuple #[.agg #[.int .i64 q, .bool true, .slice A tn c], .int .i64 0]) ∧ Ints w' w'.heap.size A T ∧ Below W.heap.size W w') := Lib.hid (fun W => by
    rw [hb]
    refine (hread_laid (HD.mk q true T) hv W).mono ?_
    rintro e w' ⟨A, c, rfl, ha, h3⟩
    refine ⟨A, c, ?_, ha.lie, h3⟩
    unfold HD.val
    simp only
    rw [htn])
  have HDN : Hid (∀ W A c, Calls Tryz.prog 93 #[.agg #[.int .i64 q, .bool true, .slice A tn c]] W fun e w' => e = .returned (.agg #[.int .i64 q, .bool false, .slice none 0 0]) ∧ Below W.heap.size W w') := Lib.hid (fun W A c => by
    rw [htn]
    exact hdone_any (HD.mk q true T) A c W)
  have HREDO : Hid (∀ W gw A c, Below w.heap.size w W → Blk W gw 101 (walC gd q true 0) → w.heap.size ≤ gw → Ints W W.heap.size A T → Calls Tryz.prog 102 #[.pointer (some ⟨gw, 0, none⟩), .agg #[.int .i64 q, .bool true, .slice A tn c]] W fun e w' => e = .returned (.int .i64 0) ∧ OpenedAt O gd gw (calm (redoS X q T) (n + (tn + 1))) q w w') := Lib.hid (fun W gw A c hW h1 h2 h3 => by
    have hgw : gw ∉ O := fun hm => by have := hd.lt hm; omega
    refine (wredo_any A hok h1 (hd.below hW) hgw htn.symm h3 hn).mono ?_
    rintro e w' ⟨rfl, O', d1, d2, d3⟩
    refine ⟨rfl, O', d1, fun b hb => ?_, (Keep.of_below hW).trans d3 (fun _ hb => .inl hb), (d3.block gw h1.lt hgw).trans h1, h2, fun hm => ?_⟩
    · rcases d2 b hb with h | h
      · exact .inl h
      · exact .inr (Nat.le_trans hW.size h)
    · rcases d2 gw hm with h | h
      · exact hgw h
      · have := h1.lt; omega)
  clear hd hok hv hX hn hr0 hb htn
  go_enter Tryz.func57, Tryz.ntmps57
  go_wp2_with fail
  refine HR.out.mono ?_
  rintro e w1 ⟨rfl, hb1⟩
  have HB1 := Lib.hid hb1
  clear hb1
  go_wp2_with fail
  refine (HRD.out _).mono ?_
  rintro e w2 ⟨A, c, rfl, hin, hb2⟩
  have HB2 := Lib.hid (HB1.out.trans (hb2.mono HB1.out.size))
  have HIN := Lib.hid hin
  clear hb2 hin
  go_upto_region 9 with fail
  obtain ⟨w3, hw3⟩ : ∃ w3, w3 = w2.alloc (.cells #[.int .i64 q, .bool true, .slice A tn c] 99) := ⟨_, rfl⟩
  obtain ⟨g6, hg6⟩ : ∃ g6, g6 = w2.heap.size := ⟨_, rfl⟩
  rw [← hw3, ← hg6]
  have HH3 : Hid (Blk w3 g6 99 #[.int .i64 q, .bool true, .slice A tn c]) := Lib.hid (by rw [hw3, hg6]; exact Blk.new w2 _ _)
  have HB23 : Hid (Below w2.heap.size w2 w3) := Lib.hid (by rw [hw3]; exact (Below.refl _ _).alloc (Nat.le_refl _) _)
  have HB3 : Hid (Below w.heap.size w w3) := Lib.hid (HB2.out.trans (HB23.out.mono HB2.out.size))
  have HIN3 : Hid (Ints w3 w3.heap.size A T) := Lib.hid ((HIN.out.below HB23.out).more HB23.out.size)
  have c0 := HH3.out.cell 0
  have c1 := HH3.out.cell 1
  have c2 := HH3.out.cell 2
  simp at c0 c1 c2
  clear hw3 hg6
  go_wp2_with fail
  refine (HDN.out _ A c).mono ?_
  rintro e w4 ⟨rfl, hb4⟩
  have HH4 := Lib.hid (HH3.out.below hb4 HH3.out.lt)
  have HB4 := Lib.hid (HB3.out.trans (hb4.mono HB3.out.size))
  have HIN4 : Hid (Ints w4 w4.heap.size A T) := Lib.hid ((HIN3.out.below hb4).more hb4.size)
  clear hb4 c0 c1 c2
  go_upto_region 10 with fail
  obtain ⟨w5, hw5⟩ : ∃ w5, w5 = w4.alloc (.cells (walC gd q true 0) 101) := ⟨_, rfl⟩
  obtain ⟨gw, hgw⟩ : ∃ gw, gw = w4.heap.size := ⟨_, rfl⟩
  have HB45 : Hid (Below w4.heap.size w4 w5) := Lib.hid (by rw [hw5]; exact (Below.refl _ _).alloc (Nat.le_refl _) _)
  have HH5 : Hid (Blk w5 gw 101 (walC gd q true 0)) := Lib.hid (by rw [hw5, hgw]; exact Blk.new w4 _ _)
  have HB5 : Hid (Below w.heap.size w w5) := Lib.hid (HB4.out.trans (HB45.out.mono HB4.out.size))
  have HG5 : Hid (w.heap.size ≤ gw) := Lib.hid (by rw [hgw]; exact HB4.out.size)
  have HIN5 : Hid (Ints w5 w5.heap.size A T) := Lib.hid ((HIN4.out.below HB45.out).more HB45.out.size)
  have hh5 := HH4.out.below HB45.out HH4.out.lt
  unfold walC at hw5
  rw [← hw5, ← hgw]
  have c0 := hh5.cell 0
  have c1 := hh5.cell 1
  have c2 := hh5.cell 2
  simp at c0 c1 c2
  clear hw5 hgw hh5
  go_wp2_with fail
  refine (HREDO.out _ _ A c HB5.out HH5.out HG5.out HIN5.out).mono ?_
  rintro e w6 ⟨rfl, h6⟩
  have H6 := Lib.hid h6
  clear h6 c0 c1 c2
  go_wp2_with fail
  go_ret2
  exact ⟨gw, rfl, H6.out⟩
def Part (s : List ByteArray) (g : List (Nat × ByteArray)) (Y : List ByteArray) : Prop := Y.length = s.length ∧ ∀ i : Nat, Y[i]? = s[i]? ∨ ∃ x ∈ g, x.1 = i ∧ Y[i]? = some x.2
theorem Part.refl (s : List ByteArray) (g : List (Nat × ByteArray)) : Part s g s := ⟨rfl, fun _ => .inl rfl⟩
theorem Part.mono {s Y : List ByteArray} {g g' : List (Nat × ByteArray)} (h : Part s g Y) (hg : ∀ x ∈ g, x ∈ g') : Part s g' Y :=
  ⟨h.1, fun i => (h.2 i).imp id fun ⟨x, hx, e⟩ => ⟨x, hg x hx, e⟩⟩
theorem kept_part (keep : List Int) (d : List (Nat × ByteArray)) : ∀ (k : Nat) (s : List ByteArray), (∀ x ∈ d, x.1 < s.length) → Part s d (keptL keep k d s) := by
  induction d with
  | nil => intro k s _; exact Part.refl _ _
  | cons w r ih =>
    intro k s h
    show Part s (w :: r) (keptL keep (k + 1) r (if oddI (keep.getD k 0) then s.set w.1 w.2 else s))
    split
    · obtain ⟨h1, h2⟩ := ih (k + 1) (s.set w.1 w.2) (fun x hx => by rw [List.length_set]; exact h x (by simp [hx]))
      refine ⟨by rw [h1, List.length_set], fun i => ?_⟩
      rcases h2 i with e | ⟨x, hx, e⟩
      · by_cases hi : w.1 = i
        · right
          refine ⟨w, by simp, hi, ?_⟩
          rw [e, ← hi, List.getElem?_set_self (h w (by simp))]
        · left
          rw [e, List.getElem?_set_ne hi]
      · exact .inr ⟨x, by simp [hx], e⟩
    · exact (ih (k + 1) s (fun x hx => h x (by simp [hx]))).mono (fun x hx => by simp [hx])
structure Dead (S : DS) (Y : List ByteArray) : Prop where
  off : S.on = false
  now : S.now = Y
  safe : S.safe = Y
  dirty : S.dirty = []
  unarmed : S.armed = false
  left : S.left = 0
  keep : S.keep = []
theorem Dead.restored {S : DS} {Y : List ByteArray} (h : Dead S Y) : S.restore = calm Y S.writes := by
  obtain ⟨S1, S2, S3, S4, S5, S6, S7, S8⟩ := S
  obtain ⟨h1, h2, h3, h4, h5, h6, h7⟩ := h
  simp only at h1 h2 h3 h4 h5 h6 h7
  subst h1 h2 h3 h4 h5 h6 h7
  rfl
theorem crash_dead {S : DS} (hon : S.on = true) (keep : List Int) : Dead (S.crash keep) (keptL keep 0 S.dirty S.safe) := by
  unfold DS.crash
  rw [if_pos hon]
  exact ⟨rfl, rfl, rfl, rfl, rfl, rfl, rfl⟩
theorem Dead.crash {S : DS} {Y : List ByteArray} (h : Dead S Y) (keep : List Int) : S.crash keep = S := by
  unfold DS.crash
  rw [if_neg (by rw [h.off]; decide)]
theorem failed_cases {S : DS} (hok : S.Ok) (hon : S.on = true) : (S.fails = false ∧ S.failed.on = true ∧ S.failed.now = S.now ∧ S.failed.safe = S.safe ∧ S.failed.dirty = S.dirty ∧ S.failed.Ok) ∨ (S.fails = true ∧ ∃ Y, Dead S.failed Y ∧ Part S.safe S.dirty Y) := by
  unfold DS.fails DS.failed
  cases hA : S.armed with
  | false => left; simp [hon, hok]
  | true =>
    by_cases hl : 0 < S.left
    · left
      have h1 : decide (S.left = 0) = false := by simp; omega
      simp only [if_true, if_pos hl, h1]
      exact ⟨rfl, hon, trivial, trivial, trivial, hok.now, hok.fits⟩
    · right
      have h1 : decide (S.left = 0) = true := by simp; omega
      simp only [if_true, if_neg hl, h1]
      exact ⟨rfl, _, crash_dead hon _, kept_part _ _ 0 _ hok.fits⟩
def natW (g : List Wr1) : List (Nat × ByteArray) := g.map fun x => (x.1.toNat, x.2)
theorem writeL_cases (g : List Wr1) : ∀ S : DS, S.Ok → S.on = true → Fit S.now.length g →
    (S.errL g = 0 ∧ (S.writeL g).on = true ∧ (S.writeL g).Ok ∧ (S.writeL g).safe = S.safe ∧ (S.writeL g).now = setI S.now g ∧ ∀ x ∈ (S.writeL g).dirty, x ∈ S.dirty ++ natW g) ∨
    (S.errL g = 14 ∧ ∃ Y, Dead (S.writeL g) Y ∧ Part S.safe (S.dirty ++ natW g) Y) := by
  induction g with
  | nil => intro S hok hon _; exact .inl ⟨rfl, hon, hok, rfl, rfl, fun x hx => by have hx' : x ∈ S.dirty := hx; simpa [natW] using hx'⟩
  | cons x r ih =>
    intro S hok hon hf
    obtain ⟨h1, h2, h3⟩ := hf x (by simp)
    have hp : (S.put x.1.toNat x.2).Ok := hok.put (by omega) _
    have ew : S.write1 x.1 x.2 = (S.put x.1.toNat x.2).failed := by unfold DS.write1; rw [if_pos ⟨h1, h2, h3⟩]
    have ee : S.err1 x.1 x.2 = if (S.put x.1.toNat x.2).fails then 14 else 0 := by unfold DS.err1; rw [if_pos ⟨h1, h2⟩, if_pos h3]
    rcases failed_cases hp hon with ⟨f1, f2, f3, f4, f5, f6⟩ | ⟨f1, Y, f2, f3⟩
    · have e0 : S.err1 x.1 x.2 = 0 := by rw [ee, f1]; rfl
      rw [DS.errL, DS.writeL, if_pos e0, if_pos e0, ew]
      have hn : (S.put x.1.toNat x.2).failed.now = S.now.set x.1.toNat x.2 := f3
      have hd : (S.put x.1.toNat x.2).failed.dirty = S.dirty ++ [(x.1.toNat, x.2)] := f5
      rcases ih _ f6 f2 (by rw [hn, List.length_set]; exact fun y hy => hf y (by simp [hy])) with ⟨i1, i2, i3, i4, i5, i6⟩ | ⟨i1, Y, i2, i3⟩
      · refine .inl ⟨i1, i2, i3, i4.trans f4, by rw [i5, hn, setI_cons], fun y hy => ?_⟩
        have := i6 y hy
        rw [hd] at this
        simpa [natW] using this
      · refine .inr ⟨i1, Y, i2, ?_⟩
        rw [f4, hd] at i3
        exact i3.mono (fun y hy => by simpa [natW] using hy)
    · have e0 : S.err1 x.1 x.2 = 14 := by rw [ee, f1]; rfl
      have hne : ¬ S.err1 x.1 x.2 = 0 := by rw [e0]; decide
      rw [DS.errL, DS.writeL, if_neg hne, if_neg hne, ew]
      refine .inr ⟨e0, Y, f2, f3.mono (fun y hy => ?_)⟩
      have hd : (S.put x.1.toNat x.2).dirty = S.dirty ++ [(x.1.toNat, x.2)] := rfl
      rw [hd] at hy
      rcases List.mem_append.1 hy with hy | hy
      · exact List.mem_append_left _ hy
      · rw [List.mem_singleton.1 hy]
        exact List.mem_append_right _ (by simp [natW])
structure Clean (S : DS) (s : List ByteArray) : Prop where
  on : S.on = true
  now : S.now = s
  safe : S.safe = s
  dirty : S.dirty = []
theorem Clean.ok {S : DS} {s : List ByteArray} (h : Clean S s) : S.Ok := ⟨by rw [h.now, h.safe, h.dirty]; rfl, by rw [h.dirty]; intro w hw; cases hw⟩
theorem group_cases {S : DS} {s : List ByteArray} (h : Clean S s) (g : List Wr1) (hf : Fit s.length g) :
    (S.errW g = 0 ∧ (S.write g).errF = 0 ∧ Clean (S.write g).flush (setI s g)) ∨ (∃ Y, Part s (natW g) Y ∧ ((S.errW g = 14 ∧ Dead (S.write g) Y) ∨ (S.errW g = 0 ∧ (S.write g).errF = 14 ∧ Dead (S.write g).flush Y))) := by
  have e1 : S.errW g = S.errL g := by unfold DS.errW; rw [if_pos h.on]
  have e2 : S.write g = S.writeL g := by unfold DS.write; rw [if_pos h.on]
  rw [e1, e2]
  rcases writeL_cases g S h.ok h.on (by rw [h.now]; exact hf) with ⟨i1, i2, i3, i4, i5, i6⟩ | ⟨i1, Y, i2, i3⟩
  · rcases failed_cases i3 i2 with ⟨f1, f2, f3, f4, f5, f6⟩ | ⟨f1, Y, f2, f3⟩
    · left
      refine ⟨i1, by unfold DS.errF; rw [if_pos i2, f1]; rfl, ?_⟩
      have e : (S.writeL g).flush = { (S.writeL g).failed with safe := (S.writeL g).now, dirty := [] } := by unfold DS.flush; rw [if_pos i2, f1]; rfl
      rw [e]
      exact ⟨f2, by show (S.writeL g).failed.now = _; rw [f3, i5, h.now], by show (S.writeL g).now = _; rw [i5, h.now], rfl⟩
    · right
      have e : (S.writeL g).flush = (S.writeL g).failed := by unfold DS.flush; rw [if_pos i2, f1]; rfl
      refine ⟨Y, ?_, .inr ⟨i1, by unfold DS.errF; rw [if_pos i2, f1]; rfl, by rw [e]; exact f2⟩⟩
      rw [i4, h.safe] at f3
      exact f3.mono (fun x hx => by have := i6 x hx; rw [h.dirty] at this; simpa using this)
  · right
    refine ⟨Y, ?_, .inl ⟨i1, i2⟩⟩
    rw [h.safe, h.dirty] at i3
    simpa using i3
theorem put_cases (G : List (List Wr1)) : ∀ (S : DS) (s : List ByteArray), Clean S s → (∀ g ∈ G, Fit s.length g) →
    (putE S G = 0 ∧ Clean (putS S G) (G.foldl setI s)) ∨ (putE S G = 14 ∧ ∃ (j : Nat) (g : List Wr1) (Y : List ByteArray), G[j]? = some g ∧ Part ((G.take j).foldl setI s) (natW g) Y ∧ Dead (putS S G) Y) := by
  induction G with
  | nil => intro S s h _; exact .inl ⟨rfl, h⟩
  | cons g r ih =>
    intro S s h hf
    rcases group_cases h g (hf g (by simp)) with ⟨h1, h2, h3⟩ | ⟨Y, hY, hE⟩
    · rw [putE, putS, if_pos h1, if_pos h2, if_pos h1, if_pos h2]
      rcases ih _ _ h3 (fun g' hg' => by rw [setI_length]; exact hf g' (by simp [hg'])) with ⟨k1, k2⟩ | ⟨k1, j, g', Y, k2, k3, k4⟩
      · exact .inl ⟨k1, k2⟩
      · exact .inr ⟨k1, j + 1, g', Y, by simpa using k2, by simpa using k3, k4⟩
    · right
      rcases hE with ⟨h1, h2⟩ | ⟨h1, h2, h3⟩
      · have hne : ¬ S.errW g = 0 := by rw [h1]; decide
        rw [putE, putS, if_neg hne, if_neg hne]
        exact ⟨h1, 0, g, Y, rfl, hY, h2⟩
      · have hne : ¬ (S.write g).errF = 0 := by rw [h2]; decide
        rw [putE, putS, if_pos h1, if_neg hne, if_pos h1, if_neg hne]
        exact ⟨h2, 0, g, Y, rfl, hY, h3⟩
open Go.RowKit Go.WideMaps Go.Maps
def roundB (i : Nat) : ByteArray := fillB ⟨#[(97 + i).toUInt8]⟩
theorem roundB_size (i : Nat) : (roundB i).size = 256 := fillB_size _
def SetIs (w : World) (b n : Nat) (L : List Int) : Prop :=
  ∃ D : DataW Unit, w.ownsMap Tryz.prog 3 (plainElem Tryz.prog 4) b n D ∧ Maps.size D = L.length ∧ ∀ t : Int, -9223372036854775808 ≤ t → t ≤ 9223372036854775807 → Maps.has D (.int .i64 t) = decide (t ∈ L)
theorem SetIs.lt {w : World} {b n : Nat} {L : List Int} (h : SetIs w b n L) : b < w.heap.size := by
  obtain ⟨D, h, _⟩ := h
  exact h.lt
theorem SetIs.kept {w w' : World} {b n : Nat} {L : List Int} (h : SetIs w b n L) (hb : w'.heap[b]? = w.heap[b]?) : SetIs w' b n L := by
  obtain ⟨D, ⟨es, clock, h1, h2⟩, h3⟩ := h
  exact ⟨D, ⟨es, clock, hb.trans h1, h2⟩, h3⟩
theorem SetIs.below {w w' : World} {b n : Nat} {L : List Int} (h : SetIs w b n L) (hb : Below w.heap.size w w') : SetIs w' b n L := h.kept (hb.block b h.lt)
theorem SetIs.made (w : World) : SetIs (w.alloc (.map #[] 0)) w.heap.size 0 [] :=
  ⟨.map [], World.ownsMap_made _ _ _ _, rfl, fun _ _ _ => rfl⟩
end Go.Proofs.YtiagofgcinlnhaaGreatDoor
