/-
  A Wal upon a disk that may lose its power: opened anew, a crash, a commit's ways. No statement is proved here.
-/
import Derived.Test.YtbaanoomilohhaaGreatDoorWalAlive
import Derived.Test.YtbaanoomilohhaaGreatDoorHeadReadAny
import Derived.Maps.StringElems
import Derived.StillTailTactics
import Derived.Deep.AppendLies
namespace Go.Proofs.YtbaanoomilohhaaGreatDoor
open Go.RowKit

/-- What redo writes home. -/
def redoL (X : List ByteArray) : Nat → List Int → List Wr1
  | _, [] => []
  | k, t :: r => (111 + t, X.getD (1 + k) .empty) :: redoL X (k + 1) r
theorem redoL_len (X : List ByteArray) (ts : List Int) : ∀ k, (redoL X k ts).length = ts.length := by
  induction ts with
  | nil => intro k; rfl
  | cons t r ih => intro k; simp [redoL, ih]
theorem redoL_snoc (X : List ByteArray) (t : Int) (ts : List Int) : ∀ k, redoL X k (ts ++ [t]) = redoL X k ts ++ [(111 + t, X.getD (1 + (k + ts.length)) .empty)] := by
  induction ts with
  | nil => intro k; simp [redoL]
  | cons u r ih =>
    intro k
    simp only [List.cons_append, redoL, ih, List.length_cons]
    rw [show k + 1 + r.length = k + (r.length + 1) by omega]
theorem redoL_at (X : List ByteArray) (ts : List Int) : ∀ k, ∀ x ∈ redoL X k ts, ∃ (j : Nat) (t : Int), x = (111 + t, X.getD (1 + j) .empty) ∧ k ≤ j ∧ j < k + ts.length ∧ t ∈ ts ∧ ts[j - k]? = some t := by
  induction ts with
  | nil => intro k x hx; cases hx
  | cons t r ih =>
    intro k x hx
    rcases List.mem_cons.1 hx with rfl | hx
    · exact ⟨k, t, rfl, Nat.le_refl _, by simp, by simp, by simp⟩
    · obtain ⟨j, u, e, h1, h2, h3, h4⟩ := ih (k + 1) x hx
      refine ⟨j, u, e, by omega, by simp only [List.length_cons]; omega, by simp [h3], ?_⟩
      rw [show j - k = (j - (k + 1)) + 1 by omega, List.getElem?_cons_succ]
      exact h4
/-- A row of writes as far as it is filled. -/
structure RowTo (w : World) (g tn : Nat) (l : List Wr1) (j : Nat) : Prop where
  ex : ∃ C : List Value, Blk w g 39 C.toArray ∧ C.length = tn * 2 ∧ C.take (j * 2) = flatI (l.take j)
theorem RowTo.below {w w' : World} {g tn j : Nat} {l : List Wr1} (h : RowTo w g tn l j) (hb : Below w.heap.size w w') : RowTo w' g tn l j := by
  obtain ⟨C, h1, h2, h3⟩ := h.ex
  exact ⟨C, h1.below hb h1.lt, h2, h3⟩
theorem RowTo.next {w : World} {g tn j : Nat} {l : List Wr1} {x : Wr1} (h : RowTo w g tn l j) (hx : l[j]? = some x) (hj : j < tn) :
    ∃ u0 u1, w.cell? ⟨g, j * 2, none⟩ = some u0 ∧ w.cell? ⟨g, j * 2 + 1, none⟩ = some u1 ∧ w.frozen? ⟨g, j * 2, none⟩ = false ∧ w.frozen? ⟨g, j * 2 + 1, none⟩ = false ∧ g < w.heap.size ∧
      RowTo ((w.setCell ⟨g, j * 2, none⟩ (.int .i64 x.1)).setCell ⟨g, j * 2 + 1, none⟩ (.string x.2)) g tn l (j + 1) := by
  obtain ⟨C, h1, h2, h3⟩ := h.ex
  refine ⟨C[j * 2]'(by omega), C[j * 2 + 1]'(by omega), ?_, ?_, h1.frozen _, h1.frozen _, h1.lt, (C.set (j * 2) (.int .i64 x.1)).set (j * 2 + 1) (.string x.2), ?_, by simpa using h2, ?_⟩
  · rw [h1.cell, List.getElem?_toArray, List.getElem?_eq_getElem]
  · rw [h1.cell, List.getElem?_toArray, List.getElem?_eq_getElem]
  · have := (h1.put (j * 2) (.int .i64 x.1)).put (j * 2 + 1) (.string x.2)
    simpa using this
  · have e : l.take (j + 1) = l.take j ++ [x] := by rw [List.take_add_one, hx]; rfl
    rw [e, flatI_snoc, ← h3]
    rw [show (j + 1) * 2 = j * 2 + 1 + 1 by omega]
    have hl : j * 2 + 1 < ((C.set (j * 2) (.int .i64 x.1)).set (j * 2 + 1) (.string x.2)).length := by simp; omega
    have hl0 : j * 2 < ((C.set (j * 2) (.int .i64 x.1)).set (j * 2 + 1) (.string x.2)).length := by simp; omega
    rw [List.take_succ_eq_append_getElem hl, List.take_succ_eq_append_getElem hl0]
    rw [List.getElem_set_self, List.getElem_set_ne (by omega), List.getElem_set_self, List.take_set_of_le (by omega), List.take_set_of_le (Nat.le_refl _)]
    simp
theorem RowTo.wrts {w : World} {g tn : Nat} {l : List Wr1} {O : List Nat} (h : RowTo w g tn l tn) (hl : l.length = tn) (hO : g ∉ O) : Wrts w O (some ⟨g, 0, none⟩) l := fun _ => by
  obtain ⟨C, h1, h2, h3⟩ := h.ex
  rw [List.take_of_length_le (by omega), List.take_of_length_le (by omega)] at h3
  subst h3
  refine ⟨g, 0, rfl, h1.lt, hO, fun j x hx => ?_⟩
  obtain ⟨q1, q2⟩ := flatI_get hx
  rw [h1.cell, h1.cell, List.getElem?_toArray, List.getElem?_toArray, show 0 + j * 2 = 2 * j by omega]
  exact ⟨q1, q2⟩

structure RedoOk (N : Nat) (q : Int) (X : List ByteArray) (T : List Int) : Prop where
  len : X.length = N
  dim : 140 ≤ N ∧ N ≤ 2000
  few : T.length ≤ 110
  range : ∀ t ∈ T, 0 ≤ t ∧ 111 + t < (N : Int)
  seq : 0 ≤ q ∧ q ≤ 1099511627776
  size : ∀ k, k < T.length → (X.getD (1 + k) .empty).size = 256
  small : ∀ x ∈ X, x.size ≤ 100000
def redoS (X : List ByteArray) (q : Int) (T : List Int) : List ByteArray := setI (setI X (redoL X 0 T)) [(0, doneB q)]
theorem RedoOk.fits {N : Nat} {q : Int} {X : List ByteArray} {T : List Int} (h : RedoOk N q X T) : ∀ g ∈ [redoL X 0 T, [(0, doneB q)]], Fit N g := by
  intro g hg x hx
  simp only [List.mem_cons, List.not_mem_nil, or_false] at hg
  rcases hg with rfl | rfl
  · obtain ⟨j, t, rfl, h1, h2, h3, h4⟩ := redoL_at X T 0 x hx
    have := h.range t h3
    exact ⟨by simp only; omega, by simp only; omega, h.size j (by omega)⟩
  · rw [List.mem_singleton.1 hx]
    have := h.dim
    exact ⟨by simp, by simp only; omega, doneB_size h.seq.1 h.seq.2⟩

set_option maxRecDepth 100000 in
set_option maxHeartbeats 1000000 in
theorem wredo_any {w : World} {gw gd N c tn n : Nat} {q k : Int} {O : List Nat} {X : List ByteArray} {T : List Int} (A : Option Addr) (hok : RedoOk N q X T) (h : Blk w gw 66 (walC gd q true k)) (hd : DiskAt w O gd (calm X n)) (hgw : gw ∉ O)
    (hT : T.length = tn) (hA : Ints w w.heap.size A T) (hn : n < 800000000000) :
    Calls Tryz.prog 32 #[.pointer (some ⟨gw, 0, none⟩), .agg #[.int .i64 q, .bool true, .slice A tn c]] w fun e w' => e = .returned (.int .i64 0) ∧ Turns O gd (calm (redoS X q T) (n + (tn + 1))) w w' := by
  obtain ⟨i1, hi1, hy0, hy1, hy2⟩ := info_parts clwrites_info
  have HOK := Lib.hid hok
  have HW := Lib.hid h
  have HDK := Lib.hid hd
  have HGW := Lib.hid hgw
  have HT := Lib.hid hT
  have HA := Lib.hid hA
  have HOL : Hid (∀ b ∈ O, b < w.heap.size) := Lib.hid (fun b hb => hd.lt hb)
  have htn : (tn : Int) ≤ 110 := by have := hok.few; omega
  have HI := Lib.hid hi1
  have HN := Lib.hid hn
  have HHAS : Hid (∀ wx, Below w.heap.size w wx → ∀ t ∈ T, Calls Tryz.prog 42 #[.pointer (some ⟨gw, 0, none⟩), .int .i64 t] wx fun e w' => e = .returned (.bool true) ∧ wx = w') := Lib.hid (fun wx hx t ht => by
    have := whas_any t (h.below hx h.lt) (hd.below hx) hok.len (by have := hok.dim; omega) (by have := hok.dim; omega)
    rw [decide_eq_true (by have := hok.range t ht; omega)] at this
    exact this)
  have HREAD : Hid (∀ wx, Below w.heap.size w wx → ∀ j, j < tn → Calls Tryz.prog 29 #[.pointer (some ⟨gd, 0, none⟩), .int .i64 (1 + (j : Int))] wx fun e w' => e = .returned (.tuple #[.string (X.getD (1 + j) .empty), .int .i64 0]) ∧ Below wx.heap.size wx w') := Lib.hid (fun wx hx j hj => by
    have := dread_any (1 + (j : Int)) (hd.below hx) hok.small
    have hlt : 1 + j < X.length := by have := hok.len; have := hok.dim; have := hok.few; omega
    have e := calm_read (n := n) (List.getElem?_eq_getElem hlt)
    rw [show ((1 + j : Nat) : Int) = 1 + (j : Int) by omega] at e
    rw [e.1, e.2] at this
    rw [List.getD_eq_getElem?_getD, List.getElem?_eq_getElem hlt]
    exact this)
  have HDONE : Hid (∀ wx, Calls Tryz.prog 31 #[.agg #[.int .i64 q, .bool true, .slice A tn c]] wx fun e w' => e = .returned (.agg #[.int .i64 q, .bool false, .slice none 0 0]) ∧ Below wx.heap.size wx w') := Lib.hid (fun wx => by
    rw [← hT]
    exact hdone_any (HD.mk q true T) A c wx)
  have HSEC : Hid (∀ wx, Calls Tryz.prog 36 #[.agg #[.int .i64 q, .bool false, .slice none 0 0]] wx fun e w' => ∃ b, e = .returned (.tuple #[.slice (some ⟨b, 0, none⟩) 1 1, .int .i64 0]) ∧ Blk w' b 39 #[.int .i64 0, .string (doneB q)] ∧ wx.heap.size ≤ b ∧ Below wx.heap.size wx w') := Lib.hid (fun wx => by
    refine (wsector_any (HD.mk q false []) none 0 wx ⟨Ints.nil _ _ _, by show 0 ≤ _; omega⟩).mono ?_
    rintro e w' ⟨b, Y, k', rfl, hs, r1, r2, r3⟩
    unfold secIs at hs
    rw [if_pos (valid_done hok.seq.1 hok.seq.2)] at hs
    obtain ⟨rfl, rfl⟩ := hs
    exact ⟨b, rfl, r1, r2, r3⟩)
  clear hok h hd hgw hT hA hi1 hn
  go_enter Tryz.func32, Tryz.ntmps32
  go_upto_region 1 with fail
  obtain ⟨w1, hw1⟩ : ∃ w1, w1 = w.alloc (.cells #[.int .i64 q, .bool true, .slice A tn c] 61) := ⟨_, rfl⟩
  obtain ⟨gb, hgb⟩ : ∃ gb, gb = w.heap.size := ⟨_, rfl⟩
  rw [← hw1, ← hgb]
  have HB1 : Hid (Below w.heap.size w w1) := Lib.hid (by rw [hw1]; exact (Below.refl _ _).alloc (Nat.le_refl _) _)
  have HH1 : Hid (Blk w1 gb 61 #[.int .i64 q, .bool true, .slice A tn c]) := Lib.hid (by rw [hw1, hgb]; exact Blk.new w _ _)
  have HGB : Hid (w.heap.size ≤ gb) := Lib.hid (by omega)
  clear hw1 hgb
  obtain ⟨w2, hmk, hown, hgr⟩ := run_make_full (P := Tryz.prog) w1 w1.heap.size 34 39 i1 (.agg #[.int .i64 0, .string .empty]) 2 Tryz.underlying34 HI.out hy0 hy1 .i64 .i64 tn (by rw [hy2]; omega) (by unfold maxLen; omega) (Nat.le_refl _)
  obtain ⟨ga, hga⟩ : ∃ ga, ga = w1.heap.size := ⟨_, rfl⟩
  rw [← hga] at hmk hown
  have HR2 : Hid (RowTo w2 ga tn (redoL X 0 T) 0) := Lib.hid (by
    rcases hown.2 with ⟨h, _⟩ | ⟨g', cap, cur, h, _, hg, h1, h2, h3, _⟩
    · cases h
    · injection h with h4 _ h5
      injection h4 with h4
      injection h4 with h4 _ _
      subst h4 h5
      exact ⟨cur.toList, by simpa using (show Blk w2 ga _ cur from hg), by simpa using h3, by simp [flatI]⟩)
  have HB12 : Hid (Below w1.heap.size w1 w2) := Lib.hid ⟨hgr.os, hgr.tape, hgr.output, hgr.size, fun b hb => hgr.block b hb (fun e => by cases e)⟩
  have HH2 := Lib.hid (HH1.out.below HB12.out HH1.out.lt)
  have HB2 : Hid (Below w.heap.size w w2) := Lib.hid (HB1.out.trans (HB12.out.mono HB1.out.size))
  have HGA : Hid (w.heap.size ≤ ga ∧ ga ≠ gb) := Lib.hid ⟨by rw [hga]; exact HB1.out.size, by have := HH1.out.lt; omega⟩
  have c2 := HH1.out.cell 2
  simp at c2
  clear hown hgr hga
  go_upto_region 2 with fail
  have c2 := HH2.out.cell 2
  simp at c2
  clear hmk
  go_wp2_with fail
  clear c2
  go_loopw [19] (fun i wr => ∃ j : Nat, j ≤ tn ∧ i = .int .i64 j ∧ RowTo wr ga tn (redoL X 0 T) j ∧ Blk wr gb 61 #[.int .i64 q, .bool true, .slice A tn c] ∧ Below w.heap.size w wr) (fun i _ => tn - (intOf i).toNat)
  case atStart => exact ⟨0, Nat.zero_le _, rfl, HR2.out, HH2.out, HB2.out⟩
  case round =>
    obtain ⟨j, hj, rfl, hr, hh, hb⟩ := hrel
    have HR := Lib.hid hr
    have HH := Lib.hid hh
    have HB := Lib.hid hb
    clear hr hh hb HR2 HH2 HB2
    by_cases hlt : j < tn
    · have hjl : j < T.length := by rw [HT.out]; exact hlt
      obtain ⟨b, off, rfl, hbb, hc⟩ := HA.out (by omega)
      obtain ⟨t, ht⟩ : ∃ t, t = T[j] := ⟨_, rfl⟩
      have htj : T[j]? = some t := by rw [ht]; exact List.getElem?_eq_getElem hjl
      have htm := List.mem_of_getElem? htj
      have hct : wr.cell? ⟨b, off + j, none⟩ = some (.int .i64 t) := (HB.out.cell (p := ⟨b, off + j, none⟩) hbb).trans (hc j t htj)
      have HHJ := Lib.hid (HHAS.out wr HB.out t htm)
      have HRJ := Lib.hid (HREAD.out wr HB.out j hlt)
      obtain ⟨D, hD⟩ : ∃ D, D = X.getD (1 + j) .empty := ⟨_, rfl⟩
      rw [← hD] at HRJ
      have hx : (redoL X 0 T)[j]? = some (111 + t, D) := by
        have h1 : T.take (j + 1) = T.take j ++ [t] := by rw [List.take_add_one, htj]; rfl
        have h2 : T = T.take j ++ (t :: T.drop (j + 1)) := by rw [ht, ← List.drop_eq_getElem_cons hjl, List.take_append_drop]
        have h3 : ∀ (a b : List Int) (k : Nat), redoL X k (a ++ b) = redoL X k a ++ redoL X (k + a.length) b := by
          intro a
          induction a with
          | nil => intro b k; simp [redoL]
          | cons u r ih => intro b k; simp only [List.cons_append, redoL, ih, List.length_cons]; rw [show k + 1 + r.length = k + (r.length + 1) by omega]
        rw [h2, h3, List.getElem?_append_right (by rw [redoL_len, List.length_take]; omega), redoL_len]
        have h4 : (T.take j).length = j := by rw [List.length_take]; omega
        rw [h4, Nat.sub_self]
        show some (111 + t, X.getD (1 + (0 + j)) .empty) = _
        rw [Nat.zero_add, ← hD]
      have HX := Lib.hid hx
      have hwal := HW.out.below HB.out HW.out.lt
      have c0 := hwal.cell 0
      simp [walC] at c0
      have hr := HOK.out.range t htm
      have hd := HOK.out.dim
      obtain ⟨r0, r1⟩ := hr
      have r2 : t ≤ 2000 := by omega
      have hjI : (j : Int) < (tn : Int) := by omega
      clear hx hjl ht htj htm hc hbb hwal hD r1 hd
      go_upto_region 7 with (go_at_call 42; refine HHJ.out.mono ?_; rintro e w3 ⟨rfl, rfl⟩)
      go_wp2_with fail
      refine HRJ.out.mono ?_
      rintro e w3 ⟨rfl, hb3⟩
      have HB3 := Lib.hid (HB.out.trans (hb3.mono HB.out.size))
      have HH3 := Lib.hid (HH.out.below hb3 HH.out.lt)
      obtain ⟨u0, u1, a0, a1, f0, f1, hgal, hrn⟩ := (HR.out.below hb3).next HX.out hlt
      have HRN := Lib.hid hrn
      clear hb3 hrn c0 hct
      go_wp2_with fail
      go_roundw
      case rel =>
        refine ⟨j + 1, by omega, by go_num, HRN.out, ?_, (HB3.out.setCell HGA.out.1 _).setCell HGA.out.1 _⟩
        exact (HH3.out.far (p := ⟨ga, j * 2, none⟩) (fun e => HGA.out.2 e.symm) _).far (p := ⟨ga, j * 2 + 1, none⟩) (fun e => HGA.out.2 e.symm) _
      case measure => simp [intOf]; omega
    · obtain rfl : tn = j := by omega
      have c0 := HH.out.cell 0
      have c1 := HH.out.cell 1
      have c2 := HH.out.cell 2
      simp at c0 c1 c2
      go_wp2_with fail
      refine (HDONE.out _).mono ?_
      rintro e w3 ⟨rfl, hb3⟩
      have HB3 := Lib.hid (HB.out.trans (hb3.mono HB.out.size))
      have HR3 := Lib.hid (HR.out.below hb3)
      clear hb3 c0 c1 c2
      go_wp2_with fail
      refine (HSEC.out _).mono ?_
      rintro e w4 ⟨b2, rfl, hs2, hsb2, hb4⟩
      have HS4 := Lib.hid hs2
      have HSB : Hid (w.heap.size ≤ b2) := Lib.hid (Nat.le_trans HB3.out.size hsb2)
      have HB4 := Lib.hid (HB3.out.trans (hb4.mono HB3.out.size))
      have HR4 := Lib.hid (HR3.out.below hb4)
      clear hs2 hsb2 hb4
      go_wp2_with fail
      obtain ⟨wp, hwp⟩ : ∃ wp, wp = w4.alloc (.cells #[.slice (some ⟨ga, 0, none⟩) tn tn, .slice (some ⟨b2, 0, none⟩) 1 1] 34) := ⟨_, rfl⟩
      obtain ⟨bg, hbg⟩ : ∃ bg, bg = w4.heap.size := ⟨_, rfl⟩
      rw [← hwp, ← hbg]
      have hB4P : Below w4.heap.size w4 wp := by rw [hwp]; exact (Below.refl _ _).alloc (Nat.le_refl _) _
      have hGP : Blk wp bg 34 #[.slice (some ⟨ga, 0, none⟩) tn tn, .slice (some ⟨b2, 0, none⟩) 1 1] := by rw [hwp, hbg]; exact Blk.new w4 _ _
      have hBWP : Below w.heap.size w wp := HB4.out.trans (hB4P.mono HB4.out.size)
      have hrl : (redoL X 0 T).length = tn := by rw [redoL_len]; exact HT.out
      have hput := wput_any (bg := bg) (m := 2) (c := 2) [⟨some ⟨ga, 0, none⟩, tn, redoL X 0 T⟩, ⟨some ⟨b2, 0, none⟩, 1, [(0, doneB q)]⟩] (HW.out.below hBWP HW.out.lt) (HDK.out.below hBWP) (calm_ok X n) HGW.out rfl (fun j x hx => by
        match j, hx with
        | 0, hx =>
          injection hx with hx
          subst hx
          refine ⟨?_, (HR4.out.below hB4P).wrts hrl (fun hm => by have := HOL.out _ hm; have := HGA.out.1; omega), by show (redoL X 0 T).length ≤ _; omega⟩
          unfold WI.val
          simp only
          rw [hrl]
          exact hGP.cell 0
        | 1, hx =>
          injection hx with hx
          subst hx
          exact ⟨hGP.cell 1, blk_wrts (HS4.out.below hB4P HS4.out.lt) HOL.out HSB.out, by show 1 ≤ _; omega⟩) hGP.lt (fun hm => by have := HOL.out _ hm; have := HB4.out.size; omega) (by omega) (show (0 : Nat) ≤ 9223372036854775807 by decide) (show n < 900000000000 by have := HN.out; omega) (show (0 : Nat) < 900000000000 by decide)
      obtain ⟨p1, p2⟩ := calm_put [redoL X 0 T, [(0, doneB q)]] X n (fun g hg => by rw [HOK.out.len]; exact HOK.out.fits g hg)
      simp only [List.map_cons, List.map_nil] at hput
      rw [p1, p2] at hput
      have HPUT := Lib.hid hput
      have HBWP := Lib.hid hBWP
      clear hput p1 p2 hwp hbg hB4P hGP hBWP
      refine HPUT.out.mono ?_
      rintro e w5 ⟨rfl, hT5⟩
      have HT5 := Lib.hid hT5
      clear hT5
      go_wp2_with fail
      go_ret
      refine ⟨rfl, ?_⟩
      have e : n + sumL [redoL X 0 T, [(0, doneB q)]] = n + (tn + 1) := by unfold sumL; simp only [List.foldr_cons, List.foldr_nil, hrl, List.length_cons, List.length_nil]
      have h5 := HT5.out
      rw [e] at h5
      exact Turns.after HBWP.out h5
end Go.Proofs.YtbaanoomilohhaaGreatDoor

namespace Go.Proofs.YtbaanoomilohhaaGreatDoor
open Go.RowKit

/-- A disk that was opened: the Wal, and what is as it was. -/
def OpenedAt (O : List Nat) (gd gw : Nat) (S : DS) (q : Int) (w w' : World) : Prop :=
  ∃ O', DiskAt w' O' gd S ∧ (∀ b ∈ O', b ∈ O ∨ w.heap.size ≤ b) ∧ Keep O w w' ∧ Blk w' gw 66 (walC gd q true 0) ∧ w.heap.size ≤ gw ∧ gw ∉ O'
theorem OpenedAt.after {O : List Nat} {gd gw : Nat} {S1 S : DS} {q : Int} {w w1 w' : World} (hT : Turns O gd S1 w w1) (h : ∀ O1, DiskAt w1 O1 gd S1 → OpenedAt O1 gd gw S q w1 w') : OpenedAt O gd gw S q w w' := by
  obtain ⟨O1, d1, d2, d3⟩ := hT
  obtain ⟨O2, e1, e2, e3, e4, e5, e6⟩ := h O1 d1
  refine ⟨O2, e1, fun b hb => ?_, d3.trans e3 d2, e4, Nat.le_trans d3.size e5, e6⟩
  rcases e2 b hb with hb | hb
  · exact d2 b hb
  · exact .inr (Nat.le_trans d3.size hb)
theorem OpenedAt.of_plain {O : List Nat} {gd gw : Nat} {S : DS} {q : Int} {w w' : World} (hd : DiskAt w O gd S) (h1 : Blk w' gw 66 (walC gd q true 0)) (h2 : w.heap.size ≤ gw) (h3 : Below w.heap.size w w') : OpenedAt O gd gw S q w w' :=
  ⟨O, hd.below h3, fun b hb => .inl hb, Keep.of_below h3, h1, h2, fun hm => by have := hd.lt hm; omega⟩

set_option maxRecDepth 100000 in
set_option maxHeartbeats 2000000 in
theorem wopen_full {w : World} {gd N n : Nat} {q : Int} {O : List Nat} {X : List ByteArray} {T : List Int} (hd : DiskAt w O gd (calm X n)) (hok : RedoOk N q X T) (hv : (HD.mk q true T).validB = true) (hX : X[0]? = some (fullB q T)) (hn : n < 800000000000) :
    Calls Tryz.prog 7 #[.pointer (some ⟨gd, 0, none⟩)] w fun e w' => ∃ gw, e = .returned (.tuple #[.pointer (some ⟨gw, 0, none⟩), .int .i64 0]) ∧ OpenedAt O gd gw (calm (redoS X q T) (n + (T.length + 1))) q w w' := by
  obtain ⟨tn, htn⟩ : ∃ tn, tn = T.length := ⟨_, rfl⟩
  rw [← htn]
  obtain ⟨b, hb⟩ : ∃ b, b = fullB q T := ⟨_, rfl⟩
  rw [← hb] at hX
  have hr0 := calm_read (n := n) hX
  have HR : Hid (Calls Tryz.prog 29 #[.pointer (some ⟨gd, 0, none⟩), .int .i64 0] w fun e w' => e = .returned (.tuple #[.string b, .int .i64 0]) ∧ Below w.heap.size w w') := Lib.hid (by
    have := dread_any 0 hd hok.small
    have e1 : (calm X n).read 0 = b := hr0.1
    have e2 : (calm X n).errR 0 = 0 := hr0.2
    rw [e1, e2] at this
    exact this)
  have HRD : Hid (∀ W, Calls Tryz.prog 30 #[.string b] W fun e w' => ∃ A c, e = .returned (.tuple #[.agg #[.int .i64 q, .bool true, .slice A tn c], .int .i64 0]) ∧ Ints w' w'.heap.size A T ∧ Below W.heap.size W w') := Lib.hid (fun W => by
    rw [hb]
    refine (hread_laid (HD.mk q true T) hv W).mono ?_
    rintro e w' ⟨A, c, rfl, ha, h3⟩
    refine ⟨A, c, ?_, ha.lie, h3⟩
    unfold HD.val
    simp only
    rw [htn])
  have HDN : Hid (∀ W A c, Calls Tryz.prog 31 #[.agg #[.int .i64 q, .bool true, .slice A tn c]] W fun e w' => e = .returned (.agg #[.int .i64 q, .bool false, .slice none 0 0]) ∧ Below W.heap.size W w') := Lib.hid (fun W A c => by
    rw [htn]
    exact hdone_any (HD.mk q true T) A c W)
  have HREDO : Hid (∀ W gw A c, Below w.heap.size w W → Blk W gw 66 (walC gd q true 0) → w.heap.size ≤ gw → Ints W W.heap.size A T → Calls Tryz.prog 32 #[.pointer (some ⟨gw, 0, none⟩), .agg #[.int .i64 q, .bool true, .slice A tn c]] W fun e w' => e = .returned (.int .i64 0) ∧ OpenedAt O gd gw (calm (redoS X q T) (n + (tn + 1))) q w w') := Lib.hid (fun W gw A c hW h1 h2 h3 => by
    have hgw : gw ∉ O := fun hm => by have := hd.lt hm; omega
    refine (wredo_any A hok h1 (hd.below hW) hgw htn.symm h3 hn).mono ?_
    rintro e w' ⟨rfl, O', d1, d2, d3⟩
    refine ⟨rfl, O', d1, fun b hb => ?_, (Keep.of_below hW).trans d3 (fun _ hb => .inl hb), (d3.block gw h1.lt hgw).trans h1, h2, fun hm => ?_⟩
    · rcases d2 b hb with h | h
      · exact .inl h
      · exact .inr (Nat.le_trans hW.size h)
    · rcases d2 gw hm with h | h
      · exact hgw h
      · have := h1.lt; omega)
  clear hd hok hv hX hn hr0 hb htn
  go_enter Tryz.func7, Tryz.ntmps7
  go_wp2_with fail
  refine HR.out.mono ?_
  rintro e w1 ⟨rfl, hb1⟩
  have HB1 := Lib.hid hb1
  clear hb1
  go_wp2_with fail
  refine (HRD.out _).mono ?_
  rintro e w2 ⟨A, c, rfl, hin, hb2⟩
  have HB2 := Lib.hid (HB1.out.trans (hb2.mono HB1.out.size))
  have HIN := Lib.hid hin
  clear hb2 hin
  go_upto_region 9 with fail
  obtain ⟨w3, hw3⟩ : ∃ w3, w3 = w2.alloc (.cells #[.int .i64 q, .bool true, .slice A tn c] 61) := ⟨_, rfl⟩
  obtain ⟨g6, hg6⟩ : ∃ g6, g6 = w2.heap.size := ⟨_, rfl⟩
  rw [← hw3, ← hg6]
  have HH3 : Hid (Blk w3 g6 61 #[.int .i64 q, .bool true, .slice A tn c]) := Lib.hid (by rw [hw3, hg6]; exact Blk.new w2 _ _)
  have HB23 : Hid (Below w2.heap.size w2 w3) := Lib.hid (by rw [hw3]; exact (Below.refl _ _).alloc (Nat.le_refl _) _)
  have HB3 : Hid (Below w.heap.size w w3) := Lib.hid (HB2.out.trans (HB23.out.mono HB2.out.size))
  have HIN3 : Hid (Ints w3 w3.heap.size A T) := Lib.hid ((HIN.out.below HB23.out).more HB23.out.size)
  have c0 := HH3.out.cell 0
  have c1 := HH3.out.cell 1
  have c2 := HH3.out.cell 2
  simp at c0 c1 c2
  clear hw3 hg6
  go_wp2_with fail
  refine (HDN.out _ A c).mono ?_
  rintro e w4 ⟨rfl, hb4⟩
  have HH4 := Lib.hid (HH3.out.below hb4 HH3.out.lt)
  have HB4 := Lib.hid (HB3.out.trans (hb4.mono HB3.out.size))
  have HIN4 : Hid (Ints w4 w4.heap.size A T) := Lib.hid ((HIN3.out.below hb4).more hb4.size)
  clear hb4 c0 c1 c2
  go_upto_region 10 with fail
  obtain ⟨w5, hw5⟩ : ∃ w5, w5 = w4.alloc (.cells (walC gd q true 0) 66) := ⟨_, rfl⟩
  obtain ⟨gw, hgw⟩ : ∃ gw, gw = w4.heap.size := ⟨_, rfl⟩
  have HB45 : Hid (Below w4.heap.size w4 w5) := Lib.hid (by rw [hw5]; exact (Below.refl _ _).alloc (Nat.le_refl _) _)
  have HH5 : Hid (Blk w5 gw 66 (walC gd q true 0)) := Lib.hid (by rw [hw5, hgw]; exact Blk.new w4 _ _)
  have HB5 : Hid (Below w.heap.size w w5) := Lib.hid (HB4.out.trans (HB45.out.mono HB4.out.size))
  have HG5 : Hid (w.heap.size ≤ gw) := Lib.hid (by rw [hgw]; exact HB4.out.size)
  have HIN5 : Hid (Ints w5 w5.heap.size A T) := Lib.hid ((HIN4.out.below HB45.out).more HB45.out.size)
  have hh5 := HH4.out.below HB45.out HH4.out.lt
  unfold walC at hw5
  rw [← hw5, ← hgw]
  have c0 := hh5.cell 0
  have c1 := hh5.cell 1
  have c2 := hh5.cell 2
  simp at c0 c1 c2
  clear hw5 hgw hh5
  go_wp2_with fail
  refine (HREDO.out _ _ A c HB5.out HH5.out HG5.out HIN5.out).mono ?_
  rintro e w6 ⟨rfl, h6⟩
  have H6 := Lib.hid h6
  clear h6 c0 c1 c2
  go_wp2_with fail
  go_ret2
  exact ⟨gw, rfl, H6.out⟩

set_option maxRecDepth 100000 in
set_option maxHeartbeats 2000000 in
theorem wagain_any {w : World} {gd : Nat} {O : List Nat} {S S' : DS} {q : Int} (hd : DiskAt w O gd S)
    (hO : ∀ W O1, DiskAt W O1 gd S.restore → Calls Tryz.prog 7 #[.pointer (some ⟨gd, 0, none⟩)] W fun e w' => ∃ gw, e = .returned (.tuple #[.pointer (some ⟨gw, 0, none⟩), .int .i64 0]) ∧ OpenedAt O1 gd gw S' q W w') :
    Calls Tryz.prog 18 #[.pointer (some ⟨gd, 0, none⟩)] w fun e w' => ∃ gw, e = .returned (.pointer (some ⟨gw, 0, none⟩)) ∧ OpenedAt O gd gw S' q w w' := by
  have HR := Lib.hid (drestore_any hd)
  have HO : Hid (∀ W, Turns O gd S.restore w W → Calls Tryz.prog 7 #[.pointer (some ⟨gd, 0, none⟩)] W fun e w' => ∃ gw, e = .returned (.tuple #[.pointer (some ⟨gw, 0, none⟩), .int .i64 0]) ∧ OpenedAt O gd gw S' q w w') := Lib.hid (fun W hT => by
    obtain ⟨O1, d1, d2, d3⟩ := hT
    refine (hO W O1 d1).mono ?_
    rintro e w' ⟨gw, rfl, O2, e1, e2, e3, e4, e5, e6⟩
    refine ⟨gw, rfl, O2, e1, fun b hb => ?_, d3.trans e3 d2, e4, Nat.le_trans d3.size e5, e6⟩
    rcases e2 b hb with hb | hb
    · exact d2 b hb
    · exact .inr (Nat.le_trans d3.size hb))
  clear hd hO
  go_enter Tryz.func18, Tryz.ntmps18
  go_wp2_with fail
  go_loopw [3] (fun i wr => i = .int .i64 0 ∧ w = wr) (fun _ _ => 0)
  case atStart => exact ⟨rfl, rfl⟩
  case round =>
    obtain ⟨rfl, rfl⟩ := hrel
    go_wp2_with fail
    refine HR.out.mono ?_
    rintro e w1 ⟨rfl, hT1⟩
    have HT1 := Lib.hid hT1
    clear hT1
    go_wp2_with fail
    refine (HO.out _ HT1.out).mono ?_
    rintro e w2 ⟨gw, rfl, h2⟩
    have H2 := Lib.hid h2
    clear h2
    go_wp2_with fail
    go_ret
    exact ⟨gw, rfl, H2.out⟩
end Go.Proofs.YtbaanoomilohhaaGreatDoor

namespace Go.Proofs.YtbaanoomilohhaaGreatDoor
open Go.RowKit

/-- Each sector is as it was, or one of those that were to be written there. -/
def Part (s : List ByteArray) (g : List (Nat × ByteArray)) (Y : List ByteArray) : Prop := Y.length = s.length ∧ ∀ i : Nat, Y[i]? = s[i]? ∨ ∃ x ∈ g, x.1 = i ∧ Y[i]? = some x.2
theorem Part.refl (s : List ByteArray) (g : List (Nat × ByteArray)) : Part s g s := ⟨rfl, fun _ => .inl rfl⟩
theorem Part.mono {s Y : List ByteArray} {g g' : List (Nat × ByteArray)} (h : Part s g Y) (hg : ∀ x ∈ g, x ∈ g') : Part s g' Y :=
  ⟨h.1, fun i => (h.2 i).imp id fun ⟨x, hx, e⟩ => ⟨x, hg x hx, e⟩⟩
theorem kept_part (keep : List Int) (d : List (Nat × ByteArray)) : ∀ (k : Nat) (s : List ByteArray), (∀ x ∈ d, x.1 < s.length) → Part s d (keptL keep k d s) := by
  induction d with
  | nil => intro k s _; exact Part.refl _ _
  | cons w r ih =>
    intro k s h
    show Part s (w :: r) (keptL keep (k + 1) r (if oddI (keep.getD k 0) then s.set w.1 w.2 else s))
    split
    · obtain ⟨h1, h2⟩ := ih (k + 1) (s.set w.1 w.2) (fun x hx => by rw [List.length_set]; exact h x (by simp [hx]))
      refine ⟨by rw [h1, List.length_set], fun i => ?_⟩
      rcases h2 i with e | ⟨x, hx, e⟩
      · by_cases hi : w.1 = i
        · right
          refine ⟨w, by simp, hi, ?_⟩
          rw [e, ← hi, List.getElem?_set_self (h w (by simp))]
        · left
          rw [e, List.getElem?_set_ne hi]
      · exact .inr ⟨x, by simp [hx], e⟩
    · exact (ih (k + 1) s (fun x hx => h x (by simp [hx]))).mono (fun x hx => by simp [hx])

/-- A disk whose power went: what it holds is safe. -/
structure Dead (S : DS) (Y : List ByteArray) : Prop where
  off : S.on = false
  now : S.now = Y
  safe : S.safe = Y
  dirty : S.dirty = []
  unarmed : S.armed = false
  left : S.left = 0
  keep : S.keep = []
theorem Dead.restored {S : DS} {Y : List ByteArray} (h : Dead S Y) : S.restore = calm Y S.writes := by
  obtain ⟨S1, S2, S3, S4, S5, S6, S7, S8⟩ := S
  obtain ⟨h1, h2, h3, h4, h5, h6, h7⟩ := h
  simp only at h1 h2 h3 h4 h5 h6 h7
  subst h1 h2 h3 h4 h5 h6 h7
  rfl
theorem crash_dead {S : DS} (hon : S.on = true) (keep : List Int) : Dead (S.crash keep) (keptL keep 0 S.dirty S.safe) := by
  unfold DS.crash
  rw [if_pos hon]
  exact ⟨rfl, rfl, rfl, rfl, rfl, rfl, rfl⟩
theorem Dead.crash {S : DS} {Y : List ByteArray} (h : Dead S Y) (keep : List Int) : S.crash keep = S := by
  unfold DS.crash
  rw [if_neg (by rw [h.off]; decide)]
/-- Where the power stays or goes: one step of it. -/
theorem failed_cases {S : DS} (hok : S.Ok) (hon : S.on = true) : (S.fails = false ∧ S.failed.on = true ∧ S.failed.now = S.now ∧ S.failed.safe = S.safe ∧ S.failed.dirty = S.dirty ∧ S.failed.Ok) ∨ (S.fails = true ∧ ∃ Y, Dead S.failed Y ∧ Part S.safe S.dirty Y) := by
  unfold DS.fails DS.failed
  cases hA : S.armed with
  | false => left; simp [hon, hok]
  | true =>
    by_cases hl : 0 < S.left
    · left
      have h1 : decide (S.left = 0) = false := by simp; omega
      simp only [if_true, if_pos hl, h1]
      exact ⟨rfl, hon, trivial, trivial, trivial, hok.now, hok.fits⟩
    · right
      have h1 : decide (S.left = 0) = true := by simp; omega
      simp only [if_true, if_neg hl, h1]
      exact ⟨rfl, _, crash_dead hon _, kept_part _ _ 0 _ hok.fits⟩

def natW (g : List Wr1) : List (Nat × ByteArray) := g.map fun x => (x.1.toNat, x.2)
theorem writeL_cases (g : List Wr1) : ∀ S : DS, S.Ok → S.on = true → Fit S.now.length g →
    (S.errL g = 0 ∧ (S.writeL g).on = true ∧ (S.writeL g).Ok ∧ (S.writeL g).safe = S.safe ∧ (S.writeL g).now = setI S.now g ∧ ∀ x ∈ (S.writeL g).dirty, x ∈ S.dirty ++ natW g) ∨
    (S.errL g = 14 ∧ ∃ Y, Dead (S.writeL g) Y ∧ Part S.safe (S.dirty ++ natW g) Y) := by
  induction g with
  | nil => intro S hok hon _; exact .inl ⟨rfl, hon, hok, rfl, rfl, fun x hx => by have hx' : x ∈ S.dirty := hx; simpa [natW] using hx'⟩
  | cons x r ih =>
    intro S hok hon hf
    obtain ⟨h1, h2, h3⟩ := hf x (by simp)
    have hp : (S.put x.1.toNat x.2).Ok := hok.put (by omega) _
    have ew : S.write1 x.1 x.2 = (S.put x.1.toNat x.2).failed := by unfold DS.write1; rw [if_pos ⟨h1, h2, h3⟩]
    have ee : S.err1 x.1 x.2 = if (S.put x.1.toNat x.2).fails then 14 else 0 := by unfold DS.err1; rw [if_pos ⟨h1, h2⟩, if_pos h3]
    rcases failed_cases hp hon with ⟨f1, f2, f3, f4, f5, f6⟩ | ⟨f1, Y, f2, f3⟩
    · have e0 : S.err1 x.1 x.2 = 0 := by rw [ee, f1]; rfl
      rw [DS.errL, DS.writeL, if_pos e0, if_pos e0, ew]
      have hn : (S.put x.1.toNat x.2).failed.now = S.now.set x.1.toNat x.2 := f3
      have hd : (S.put x.1.toNat x.2).failed.dirty = S.dirty ++ [(x.1.toNat, x.2)] := f5
      rcases ih _ f6 f2 (by rw [hn, List.length_set]; exact fun y hy => hf y (by simp [hy])) with ⟨i1, i2, i3, i4, i5, i6⟩ | ⟨i1, Y, i2, i3⟩
      · refine .inl ⟨i1, i2, i3, i4.trans f4, by rw [i5, hn, setI_cons], fun y hy => ?_⟩
        have := i6 y hy
        rw [hd] at this
        simpa [natW] using this
      · refine .inr ⟨i1, Y, i2, ?_⟩
        rw [f4, hd] at i3
        exact i3.mono (fun y hy => by simpa [natW] using hy)
    · have e0 : S.err1 x.1 x.2 = 14 := by rw [ee, f1]; rfl
      have hne : ¬ S.err1 x.1 x.2 = 0 := by rw [e0]; decide
      rw [DS.errL, DS.writeL, if_neg hne, if_neg hne, ew]
      refine .inr ⟨e0, Y, f2, f3.mono (fun y hy => ?_)⟩
      have hd : (S.put x.1.toNat x.2).dirty = S.dirty ++ [(x.1.toNat, x.2)] := rfl
      rw [hd] at hy
      rcases List.mem_append.1 hy with hy | hy
      · exact List.mem_append_left _ hy
      · rw [List.mem_singleton.1 hy]
        exact List.mem_append_right _ (by simp [natW])

/-- A disk with power on which all is safe. -/
structure Clean (S : DS) (s : List ByteArray) : Prop where
  on : S.on = true
  now : S.now = s
  safe : S.safe = s
  dirty : S.dirty = []
theorem Clean.ok {S : DS} {s : List ByteArray} (h : Clean S s) : S.Ok := ⟨by rw [h.now, h.safe, h.dirty]; rfl, by rw [h.dirty]; intro w hw; cases hw⟩
/-- One group: written and flushed, or the power went in it. -/
theorem group_cases {S : DS} {s : List ByteArray} (h : Clean S s) (g : List Wr1) (hf : Fit s.length g) :
    (S.errW g = 0 ∧ (S.write g).errF = 0 ∧ Clean (S.write g).flush (setI s g)) ∨ (∃ Y, Part s (natW g) Y ∧ ((S.errW g = 14 ∧ Dead (S.write g) Y) ∨ (S.errW g = 0 ∧ (S.write g).errF = 14 ∧ Dead (S.write g).flush Y))) := by
  have e1 : S.errW g = S.errL g := by unfold DS.errW; rw [if_pos h.on]
  have e2 : S.write g = S.writeL g := by unfold DS.write; rw [if_pos h.on]
  rw [e1, e2]
  rcases writeL_cases g S h.ok h.on (by rw [h.now]; exact hf) with ⟨i1, i2, i3, i4, i5, i6⟩ | ⟨i1, Y, i2, i3⟩
  · rcases failed_cases i3 i2 with ⟨f1, f2, f3, f4, f5, f6⟩ | ⟨f1, Y, f2, f3⟩
    · left
      refine ⟨i1, by unfold DS.errF; rw [if_pos i2, f1]; rfl, ?_⟩
      have e : (S.writeL g).flush = { (S.writeL g).failed with safe := (S.writeL g).now, dirty := [] } := by unfold DS.flush; rw [if_pos i2, f1]; rfl
      rw [e]
      exact ⟨f2, by show (S.writeL g).failed.now = _; rw [f3, i5, h.now], by show (S.writeL g).now = _; rw [i5, h.now], rfl⟩
    · right
      have e : (S.writeL g).flush = (S.writeL g).failed := by unfold DS.flush; rw [if_pos i2, f1]; rfl
      refine ⟨Y, ?_, .inr ⟨i1, by unfold DS.errF; rw [if_pos i2, f1]; rfl, by rw [e]; exact f2⟩⟩
      rw [i4, h.safe] at f3
      exact f3.mono (fun x hx => by have := i6 x hx; rw [h.dirty] at this; simpa using this)
  · right
    refine ⟨Y, ?_, .inl ⟨i1, i2⟩⟩
    rw [h.safe, h.dirty] at i3
    simpa using i3

/-- Groups: all written, or the power went in one of them. -/
theorem put_cases (G : List (List Wr1)) : ∀ (S : DS) (s : List ByteArray), Clean S s → (∀ g ∈ G, Fit s.length g) →
    (putE S G = 0 ∧ Clean (putS S G) (G.foldl setI s)) ∨ (putE S G = 14 ∧ ∃ (j : Nat) (g : List Wr1) (Y : List ByteArray), G[j]? = some g ∧ Part ((G.take j).foldl setI s) (natW g) Y ∧ Dead (putS S G) Y) := by
  induction G with
  | nil => intro S s h _; exact .inl ⟨rfl, h⟩
  | cons g r ih =>
    intro S s h hf
    rcases group_cases h g (hf g (by simp)) with ⟨h1, h2, h3⟩ | ⟨Y, hY, hE⟩
    · rw [putE, putS, if_pos h1, if_pos h2, if_pos h1, if_pos h2]
      rcases ih _ _ h3 (fun g' hg' => by rw [setI_length]; exact hf g' (by simp [hg'])) with ⟨k1, k2⟩ | ⟨k1, j, g', Y, k2, k3, k4⟩
      · exact .inl ⟨k1, k2⟩
      · exact .inr ⟨k1, j + 1, g', Y, by simpa using k2, by simpa using k3, k4⟩
    · right
      rcases hE with ⟨h1, h2⟩ | ⟨h1, h2, h3⟩
      · have hne : ¬ S.errW g = 0 := by rw [h1]; decide
        rw [putE, putS, if_neg hne, if_neg hne]
        exact ⟨h1, 0, g, Y, rfl, hY, h2⟩
      · have hne : ¬ (S.write g).errF = 0 := by rw [h2]; decide
        rw [putE, putS, if_pos h1, if_neg hne, if_pos h1, if_neg hne]
        exact ⟨h2, 0, g, Y, rfl, hY, h3⟩
end Go.Proofs.YtbaanoomilohhaaGreatDoor

namespace Go.Proofs.YtbaanoomilohhaaGreatDoor
open Go.RowKit Go.WideMaps Go.Maps

theorem one_byte9 (w : World) (x : Nat) (hx : x < 256) :
    (convert 68 9 (.slice (some ⟨w.heap.size, 0, none⟩) 1 1)).run Tryz.prog (w.alloc (.cells #[.int .u8 (x : Int)] 5)) = .ok (.string ⟨#[x.toUInt8]⟩) (w.alloc (.cells #[.int .u8 (x : Int)] 5)) := by
  have h := blk_text (w.alloc (.cells #[.int .u8 (x : Int)] 5)) w.heap.size [x.toUInt8] 1 rfl (by
    have hb := Blk.new w 5 #[.int .u8 (x : Int)]
    have e : (Lib.byteCells [x.toUInt8]).toArray = #[.int .u8 (x : Int)] := by
      show #[Value.int .u8 ((x.toUInt8.toNat : Nat) : Int)] = _
      have : x.toUInt8.toNat = x := by simp [Nat.toUInt8]; omega
      rw [this]
    rw [e]
    exact hb)
  exact h
/-- What is written at time i. -/
def roundB (i : Nat) : ByteArray := fillB ⟨#[(97 + i).toUInt8]⟩
theorem roundB_size (i : Nat) : (roundB i).size = 256 := fillB_size _

/-- The place that a number names. -/
def atK (y : Int) : Nat := (y % 80).toNat
theorem atK_lt (y : Int) : atK y < 80 := by unfold atK; omega
theorem atK_steps (y : Int) : ∃ t : Int, y.tmod 80 = t ∧ -80 < t ∧ t < 80 ∧ (t + 80).tmod 80 = (atK y : Int) ∧ (t + 80) % 80 = (atK y : Int) := by
  refine ⟨y.tmod 80, rfl, ?_, ?_, ?_⟩
  · have := Int.lt_tmod_of_pos y (show (0 : Int) < 80 by omega); omega
  · exact Int.tmod_lt_of_pos y (by omega)
  · have h1 : -80 < y.tmod 80 := Int.lt_tmod_of_pos y (show (0 : Int) < 80 by omega)
    have h2 : y.tmod 80 < 80 := Int.tmod_lt_of_pos y (by omega)
    have h3 : (y.tmod 80 + 80) % 80 = (atK y : Int) := by
      have e : y = 80 * (y.tdiv 80) + y.tmod 80 := (Int.mul_tdiv_add_tmod y 80).symm
      unfold atK
      omega
    refine ⟨?_, h3⟩
    rw [Int.tmod_eq_emod_of_nonneg (by omega)]
    exact h3

theorem putL_count (x : Int) : ∀ l : List Int, l.Pairwise (· < ·) → (putL x l).length = if x ∈ l then l.length else l.length + 1
  | [], _ => by simp [putL]
  | y :: r, h => by
    obtain ⟨h1, h2⟩ := List.pairwise_cons.1 h
    unfold putL
    by_cases hy : y < x
    · rw [if_pos hy]
      have ih := putL_count x r h2
      have hne : ¬ x = y := by omega
      simp only [List.length_cons, ih, List.mem_cons, hne, false_or]
      split <;> rfl
    · rw [if_neg hy]
      by_cases he : y = x
      · rw [if_pos he, if_pos (by simp [he])]
      · rw [if_neg he, if_neg (fun hm => by
          rcases List.mem_cons.1 hm with e | hm
          · exact he e.symm
          · have := h1 x hm; omega)]
        rfl

/-- The set in block b holds just these. -/
def SetIs (w : World) (b n : Nat) (L : List Int) : Prop :=
  ∃ D : DataW Unit, w.ownsMap Tryz.prog 3 (plainElem Tryz.prog 4) b n D ∧ Maps.size D = L.length ∧ ∀ t : Int, -9223372036854775808 ≤ t → t ≤ 9223372036854775807 → Maps.has D (.int .i64 t) = decide (t ∈ L)
theorem SetIs.lt {w : World} {b n : Nat} {L : List Int} (h : SetIs w b n L) : b < w.heap.size := by
  obtain ⟨D, h, _⟩ := h
  exact h.lt
theorem SetIs.kept {w w' : World} {b n : Nat} {L : List Int} (h : SetIs w b n L) (hb : w'.heap[b]? = w.heap[b]?) : SetIs w' b n L := by
  obtain ⟨D, ⟨es, clock, h1, h2⟩, h3⟩ := h
  exact ⟨D, ⟨es, clock, hb.trans h1, h2⟩, h3⟩
theorem SetIs.below {w w' : World} {b n : Nat} {L : List Int} (h : SetIs w b n L) (hb : Below w.heap.size w w') : SetIs w' b n L := h.kept (hb.block b h.lt)
theorem SetIs.made (w : World) : SetIs (w.alloc (.map #[] 0)) w.heap.size 0 [] :=
  ⟨.map [], World.ownsMap_made _ _ _ _, rfl, fun _ _ _ => rfl⟩
end Go.Proofs.YtbaanoomilohhaaGreatDoor

namespace Go.Proofs.YtbaanoomilohhaaGreatDoor
open Go.RowKit

def manyP (n i j : Nat) : List Wr1 := (List.range j).map fun (u : Nat) => (((n : Int) - 1 - (u : Int)), roundB i)
theorem manyP_succ (n i j : Nat) : manyP n i (j + 1) = manyP n i j ++ [((n : Int) - 1 - (j : Int), roundB i)] := by unfold manyP; rw [List.range_succ, List.map_append]; rfl
theorem manyP_len (n i j : Nat) : (manyP n i j).length = j := by unfold manyP; simp
theorem manyP_mem {n i j : Nat} {x : Wr1} (h : x ∈ manyP n i j) : ∃ u : Nat, u < j ∧ x = ((n : Int) - 1 - (u : Int), roundB i) := by
  unfold manyP at h
  obtain ⟨u, hu, rfl⟩ := List.mem_map.1 h
  exact ⟨u, List.mem_range.1 hu, rfl⟩
def rangeI (n : Nat) : List Int := (List.range n).map fun (k : Nat) => (k : Int)
theorem rangeI_len (n : Nat) : (rangeI n).length = n := by unfold rangeI; simp
theorem rangeI_mem {n : Nat} {t : Int} : t ∈ rangeI n ↔ 0 ≤ t ∧ t < (n : Int) := by
  unfold rangeI
  rw [List.mem_map]
  constructor
  · rintro ⟨k, hk, rfl⟩
    have := List.mem_range.1 hk
    omega
  · intro h
    exact ⟨t.toNat, List.mem_range.2 (by omega), by omega⟩
theorem rangeI_get {n k : Nat} (h : k < n) : (rangeI n)[k]? = some (k : Int) := by
  unfold rangeI
  rw [List.getElem?_map, List.getElem?_range h]
  rfl
theorem rangeI_strict (n : Nat) : (rangeI n).Pairwise (· < ·) := by
  unfold rangeI
  rw [List.pairwise_map]
  exact List.pairwise_lt_range.imp (fun h => by omega)
theorem many_once (n i : Nat) : rangeI n = putOnce ((manyP n i n).map Prod.fst) := by
  refine strict_ext _ _ (rangeI_strict n) (putOnce_spec _).1 (fun t => ?_)
  rw [(putOnce_spec _).2 t, rangeI_mem]
  constructor
  · intro h
    refine List.mem_map.2 ⟨((n : Int) - 1 - (((n : Int) - 1 - t).toNat : Int), roundB i), ?_, by simp only; omega⟩
    unfold manyP
    exact List.mem_map.2 ⟨((n : Int) - 1 - t).toNat, List.mem_range.2 (by omega), rfl⟩
  · intro h
    obtain ⟨x, hx, rfl⟩ := List.mem_map.1 h
    obtain ⟨u, hu, rfl⟩ := manyP_mem hx
    simp only
    omega
theorem refE_all {m : Int} : ∀ {l : List Wr1}, (∀ x ∈ l, 0 ≤ x.1 ∧ x.1 < m ∧ x.2.size = 256) → refE m l = 0
  | [], _ => rfl
  | y :: r, h => by
    obtain ⟨h1, h2, h3⟩ := h y (by simp)
    unfold refE
    rw [if_pos ⟨h1, h2⟩, if_pos h3]
    exact refE_all (fun x hx => h x (by simp [hx]))
theorem many_ok {n : Nat} (i : Nat) (h1 : 1 ≤ n) (h2 : n ≤ 60) {q : Int} (hq : 0 ≤ q ∧ q < 1099511627776) : CommitOk 200 q (manyP n i n) (rangeI n) := by
  refine ⟨many_once n i, by omega, by rw [rangeI_len]; omega, by rw [manyP_len]; omega, refE_all (fun x hx => ?_), hq⟩
  obtain ⟨u, hu, rfl⟩ := manyP_mem hx
  exact ⟨by simp only; omega, by simp only; omega, roundB_size i⟩
theorem many_last {n i : Nat} {t : Int} (h : t ∈ rangeI n) : lastB (manyP n i n) t = roundB i := by
  rw [many_once n i, (putOnce_spec _).2 t] at h
  obtain ⟨j, x, _, _, hx, _, e⟩ := lastM_all _ h
  rw [← e]
  obtain ⟨u, _, rfl⟩ := manyP_mem (List.mem_of_getElem? hx)
  rfl

/-- What the home sectors held ahead of commit j. -/
def oldB : Nat → ByteArray
  | 0 => zeroB 256
  | j + 1 => roundB j
def headB : Nat → ByteArray
  | 0 => zeroB 256
  | j + 1 => doneB ((j : Int) + 1)
structure Inv9 (n j : Nat) (s : List ByteArray) : Prop where
  len : s.length = 200
  head : s[0]? = some (headB j)
  home : ∀ t : Nat, t < n → s[111 + t]? = some (oldB j)
  small : ∀ x ∈ s, x.size ≤ 256
theorem Inv9.start (n : Nat) (hn : n ≤ 60) : Inv9 n 0 (List.replicate 200 (zeroB 256)) :=
  ⟨List.length_replicate, by rw [List.getElem?_replicate, if_pos (by omega)]; rfl, fun t ht => by rw [List.getElem?_replicate, if_pos (by omega)]; rfl, fun x hx => by rw [List.eq_of_mem_replicate hx, zeroB_size]; omega⟩
theorem fold_small {N : Nat} (G : List (List Wr1)) : ∀ s : List ByteArray, (∀ g ∈ G, Fit N g) → (∀ x ∈ s, x.size ≤ 256) → ∀ x ∈ G.foldl setI s, x.size ≤ 256 := by
  induction G with
  | nil => intro s _ h; exact h
  | cons g r ih =>
    intro s hf hs
    exact ih _ (fun g' hg' => hf g' (by simp [hg'])) (setI_small g 256 s (fun x hx => by have := (hf g (by simp) x hx).2.2; omega) hs)
theorem Inv9.next {n j : Nat} {s : List ByteArray} (h : Inv9 n j s) (h1 : 1 ≤ n) (h2 : n ≤ 60) (hj : j < 100) : Inv9 n (j + 1) (doneS s (j : Int) (manyP n j n) (rangeI n)) := by
  have hok := many_ok j h1 h2 (q := (j : Int)) (by omega)
  refine ⟨by rw [CommitOk.done_len]; exact h.len, hok.done_head s h.len, fun t ht => ?_, fold_small _ _ hok.fits h.small⟩
  have := hok.done_at s h.len (t := (t : Int)) (by omega) (by omega)
  rw [if_pos (rangeI_mem.2 (by omega)), many_last (rangeI_mem.2 (by omega))] at this
  rw [show (111 + (t : Int)).toNat = 111 + t by omega] at this
  exact this

theorem head_read {j : Nat} (hj : j ≤ 100) (W : World) : Calls Tryz.prog 30 #[.string (headB j)] W fun e w' => ∃ A c, e = .returned (.tuple #[.agg #[.int .i64 (j : Int), .bool false, .slice A 0 c], .int .i64 0]) ∧ Below W.heap.size W w' := by
  cases j with
  | zero => exact read_zero W
  | succ j => exact read_done (q := (j : Int) + 1) (by omega) (by omega) W

/-- What a disk may hold whose power went in a commit: as ahead of it, full, or as behind it. -/
inductive Left9 (n j : Nat) (Y : List ByteArray) : Prop
  | old (h : Inv9 n j Y)
  | full (hl : Y.length = 200) (hs : ∀ x ∈ Y, x.size ≤ 256) (h0 : Y[0]? = some (fullB ((j : Int) + 1) (rangeI n))) (hc : ∀ k : Nat, k < n → Y[1 + k]? = some (roundB j))
  | new (h : Inv9 n (j + 1) Y)

theorem part_small {s Y : List ByteArray} {g : List Wr1} {N : Nat} (h : Part s (natW g) Y) (hs : ∀ x ∈ s, x.size ≤ 256) (hg : Fit N g) : ∀ x ∈ Y, x.size ≤ 256 := by
  intro x hx
  obtain ⟨i, hi⟩ := List.getElem?_of_mem hx
  rcases h.2 i with e | ⟨y, hy, _, e⟩
  · rw [hi] at e
    exact hs x (List.mem_of_getElem? e.symm)
  · rw [hi] at e
    injection e with e
    unfold natW at hy
    obtain ⟨z, hz, rfl⟩ := List.mem_map.1 hy
    have := (hg z hz).2.2
    rw [e]
    show z.2.size ≤ 256
    omega
theorem part_far {s Y : List ByteArray} {g : List Wr1} (h : Part s (natW g) Y) {i : Nat} (hi : ∀ x ∈ g, x.1.toNat ≠ i) : Y[i]? = s[i]? := by
  rcases h.2 i with e | ⟨y, hy, e', _⟩
  · exact e
  · unfold natW at hy
    obtain ⟨z, hz, rfl⟩ := List.mem_map.1 hy
    exact absurd e' (hi z hz)
theorem copies_here (l : List Wr1) (ts : List Int) : ∀ (k : Nat) (s : List ByteArray), k + ts.length < s.length → ∀ j t, ts[j]? = some t → (setI s (copiesL l k ts))[1 + (k + j)]? = some (lastB l t) := by
  induction ts with
  | nil => intro k s _ j t h; cases h
  | cons u r ih =>
    intro k s hs j t h
    rw [copiesL, setI_cons]
    cases j with
    | zero =>
      rw [List.getElem?_cons_zero] at h
      injection h with h
      subst h
      rw [setI_far _ _ (fun x hx => ?_)]
      · have e : (1 + (k : Int)).toNat = 1 + (k + 0) := by omega
        rw [show ((1 + (k : Int), lastB l u) : Wr1).1 = 1 + (k : Int) from rfl, e, List.getElem?_set_self (by simp only [List.length_cons] at hs; omega)]
      · obtain ⟨j', t', rfl, h1, _, _⟩ := copies_at l r (k + 1) x hx
        simp only
        omega
    | succ j =>
      rw [List.getElem?_cons_succ] at h
      have := ih (k + 1) (s.set (1 + (k : Int)).toNat (lastB l u)) (by simp only [List.length_set]; simp only [List.length_cons] at hs; omega) j t h
      rw [show k + 1 + j = k + (j + 1) by omega] at this
      exact this

theorem left_cases {n j : Nat} {s : List ByteArray} (h : Inv9 n j s) (h1 : 1 ≤ n) (h2 : n ≤ 60) (hj : j < 100) {i : Nat} {g : List Wr1} {Y : List ByteArray}
    (hi : (groupsL (j : Int) (manyP n j n) (rangeI n))[i]? = some g) (hp : Part (((groupsL (j : Int) (manyP n j n) (rangeI n)).take i).foldl setI s) (natW g) Y) : Left9 n j Y := by
  have hok := many_ok j h1 h2 (q := (j : Int)) (by omega)
  have hf := hok.fits
  have hrl := rangeI_len n
  have hcopy : ∀ (x : Wr1), x ∈ copiesL (manyP n j n) 0 (rangeI n) → 1 ≤ x.1 ∧ x.1 ≤ 60 := fun x hx => by
    obtain ⟨k, t, rfl, a1, a2, a3⟩ := copies_at _ _ 0 x hx
    simp only
    omega
  have hhome : ∀ (x : Wr1), x ∈ homeL (manyP n j n) (rangeI n) → 111 ≤ x.1 ∧ x.1 < 111 + (n : Int) := fun x hx => by
    obtain ⟨t, ht, rfl⟩ := home_at _ _ hx
    have := rangeI_mem.1 ht
    simp only
    omega
  have hsm := fold_small ((groupsL (j : Int) (manyP n j n) (rangeI n)).take i) s (fun g' hg' => hf g' (List.mem_of_mem_take hg')) h.small
  have hYs := part_small hp hsm (hf g (List.mem_of_getElem? hi))
  have hYl : Y.length = 200 := by
    have : ∀ (G : List (List Wr1)) (s : List ByteArray), (G.foldl setI s).length = s.length := by
      intro G
      induction G with
      | nil => intro s; rfl
      | cons g r ih => intro s; show (r.foldl setI (setI s g)).length = _; rw [ih, setI_length]
    rw [hp.1, this, h.len]
  unfold groupsL at hi hp
  match i, hi with
  | 0, hi =>
    injection hi with hi
    subst hi
    have hp : Part s (natW (copiesL (manyP n j n) 0 (rangeI n))) Y := hp
    refine .old ⟨hYl, ?_, fun t ht => ?_, hYs⟩
    · rw [part_far hp (fun x hx => by have := hcopy x hx; omega)]; exact h.head
    · rw [part_far hp (fun x hx => by have := hcopy x hx; omega)]; exact h.home t ht
  | 1, hi =>
    injection hi with hi
    subst hi
    have hp : Part (setI s (copiesL (manyP n j n) 0 (rangeI n))) (natW [(0, bs (HD.mk ((j : Int) + 1) true (rangeI n)).text)]) Y := hp
    rcases hp.2 0 with e | ⟨x, hx, _, e⟩
    · refine .old ⟨hYl, ?_, fun t ht => ?_, hYs⟩
      · rw [e, setI_far _ _ (fun x hx => by have := hcopy x hx; omega)]; exact h.head
      · rw [part_far hp (fun x hx => by rw [List.mem_singleton.1 hx]; simp only; omega), setI_far _ _ (fun x hx => by have := hcopy x hx; omega)]; exact h.home t ht
    · have hx : x = (((0 : Int)).toNat, bs (HD.mk ((j : Int) + 1) true (rangeI n)).text) := List.mem_singleton.1 hx
      subst hx
      refine .full hYl hYs e (fun k hk => ?_)
      rw [part_far hp (fun x hx => by rw [List.mem_singleton.1 hx]; simp only; omega)]
      have := copies_here (manyP n j n) (rangeI n) 0 s (by rw [hrl, h.len]; omega) k (k : Int) (rangeI_get hk)
      rw [Nat.zero_add, many_last (rangeI_mem.2 (by omega))] at this
      exact this
  | 2, hi =>
    injection hi with hi
    subst hi
    have hp : Part (setI (setI s (copiesL (manyP n j n) 0 (rangeI n))) [(0, bs (HD.mk ((j : Int) + 1) true (rangeI n)).text)]) (natW (homeL (manyP n j n) (rangeI n))) Y := hp
    refine .full hYl hYs ?_ (fun k hk => ?_)
    · rw [part_far hp (fun x hx => by have := hhome x hx; omega), setI_cons]
      show (List.set _ 0 _)[0]? = _
      rw [List.getElem?_set_self (by rw [setI_length, h.len]; omega)]
      rfl
    · rw [part_far hp (fun x hx => by have := hhome x hx; omega), setI_far _ _ (fun x hx => by rw [List.mem_singleton.1 hx]; simp only; omega)]
      have := copies_here (manyP n j n) (rangeI n) 0 s (by rw [hrl, h.len]; omega) k (k : Int) (rangeI_get hk)
      rw [Nat.zero_add, many_last (rangeI_mem.2 (by omega))] at this
      exact this
  | 3, hi =>
    injection hi with hi
    subst hi
    have hp : Part (setI (setI (setI s (copiesL (manyP n j n) 0 (rangeI n))) [(0, bs (HD.mk ((j : Int) + 1) true (rangeI n)).text)]) (homeL (manyP n j n) (rangeI n))) (natW [(0, bs (HD.mk ((j : Int) + 1) false []).text)]) Y := hp
    rcases hp.2 0 with e | ⟨x, hx, _, e⟩
    · refine .full hYl hYs ?_ (fun k hk => ?_)
      · rw [e, setI_far _ _ (fun x hx => by have := hhome x hx; omega), setI_cons]
        show (List.set _ 0 _)[0]? = _
        rw [List.getElem?_set_self (by rw [setI_length, h.len]; omega)]
        rfl
      · rw [part_far hp (fun x hx => by rw [List.mem_singleton.1 hx]; simp only; omega), setI_far _ _ (fun x hx => by have := hhome x hx; omega), setI_far _ _ (fun x hx => by rw [List.mem_singleton.1 hx]; simp only; omega)]
        have := copies_here (manyP n j n) (rangeI n) 0 s (by rw [hrl, h.len]; omega) k (k : Int) (rangeI_get hk)
        rw [Nat.zero_add, many_last (rangeI_mem.2 (by omega))] at this
        exact this
    · have hx : x = (((0 : Int)).toNat, bs (HD.mk ((j : Int) + 1) false []).text) := List.mem_singleton.1 hx
      subst hx
      refine .new ⟨hYl, e, fun t ht => ?_, hYs⟩
      rw [part_far hp (fun x hx => by rw [List.mem_singleton.1 hx]; simp only; omega)]
      have := setI_home (manyP n j n) (rangeI n) (t := (t : Int)) (setI (setI s (copiesL (manyP n j n) 0 (rangeI n))) [(0, bs (HD.mk ((j : Int) + 1) true (rangeI n)).text)]) (rangeI_mem.2 (by omega)) (by omega) (by rw [setI_length, setI_length, h.len]; omega) (fun u hu => (rangeI_mem.1 hu).1)
      rw [many_last (rangeI_mem.2 (by omega)), show (111 + (t : Int)).toNat = 111 + t by omega] at this
      exact this
end Go.Proofs.YtbaanoomilohhaaGreatDoor

namespace Go.Proofs.YtbaanoomilohhaaGreatDoor
open Go.RowKit

def lastO (l : List Wr1) (o : Option ByteArray) (t : Int) : Option ByteArray := l.foldl (fun o x => if x.1 = t then some x.2 else o) o
theorem lastO_cons (x : Wr1) (r : List Wr1) (o : Option ByteArray) (t : Int) : lastO (x :: r) o t = lastO r (if x.1 = t then some x.2 else o) t := rfl
theorem lastO_no (l : List Wr1) (t : Int) : ∀ o, t ∉ l.map Prod.fst → lastO l o t = o := by
  induction l with
  | nil => intro o _; rfl
  | cons x r ih =>
    intro o h
    rw [lastO_cons, if_neg (fun e => h (by simp [e])), ih _ (fun hm => h (by simp [hm]))]
theorem lastO_yes (l : List Wr1) (t : Int) : ∀ o, t ∈ l.map Prod.fst → lastO l o t = some (lastB l t) := by
  have key : ∀ (l : List Wr1) (o : Option ByteArray), t ∈ l.map Prod.fst → lastO l o t = lastO l none t ∧ ∃ v, lastO l none t = some v := by
    intro l
    induction l with
    | nil => intro o h; cases h
    | cons x r ih =>
      intro o h
      by_cases hr : t ∈ r.map Prod.fst
      · rw [lastO_cons, lastO_cons]
        obtain ⟨h1, v, h2⟩ := ih (if x.1 = t then some x.2 else o) hr
        obtain ⟨h3, _⟩ := ih (if x.1 = t then some x.2 else none) hr
        exact ⟨h1.trans h3.symm, v, h3.trans h2⟩
      · have hx : x.1 = t := by
          rcases List.mem_cons.1 h with h | h
          · exact h.symm
          · exact absurd h hr
        rw [lastO_cons, lastO_cons, if_pos hx, if_pos hx]
        exact ⟨rfl, x.2, lastO_no r t _ hr⟩
  intro o h
  obtain ⟨h1, v, h2⟩ := key l o h
  rw [h1, h2]
  have : lastB l t = (lastO l none t).getD .empty := rfl
  rw [this, h2]
  rfl
theorem setI_get (l : List Wr1) (t : Nat) : ∀ h : List ByteArray, t < h.length → (∀ x ∈ l, 0 ≤ x.1) → (setI h l)[t]? = lastO l h[t]? (t : Int) := by
  induction l with
  | nil => intro h _ _; rfl
  | cons x r ih =>
    intro h ht h0
    rw [setI_cons, ih _ (by simpa using ht) (fun y hy => h0 y (by simp [hy])), lastO_cons]
    have hx := h0 x (by simp)
    by_cases e : x.1 = (t : Int)
    · rw [if_pos e]
      have : x.1.toNat = t := by omega
      rw [this, List.getElem?_set_self ht]
    · rw [if_neg e, List.getElem?_set_ne (by omega)]

def headQ (q : Int) : ByteArray := if q = 0 then zeroB 256 else doneB q
/-- A disk that holds home h, its head done at number q. -/
structure Held (N : Nat) (q : Int) (h Z : List ByteArray) : Prop where
  len : Z.length = N
  dim : 140 ≤ N ∧ N ≤ 400
  head : Z[0]? = some (headQ q)
  seq : 0 ≤ q ∧ q < 1000000
  hlen : h.length = N - 111
  home : ∀ t : Nat, t < N - 111 → Z[111 + t]? = h[t]?
  small : ∀ x ∈ Z, x.size ≤ 256
/-- .. whose head is full: redone it holds h' at number q. -/
structure Fulls (N : Nat) (q : Int) (h' : List ByteArray) (T : List Int) (Z : List ByteArray) : Prop where
  len : Z.length = N
  dim : 140 ≤ N ∧ N ≤ 400
  head : Z[0]? = some (fullB q T)
  valid : (HD.mk q true T).validB = true
  seq : 1 ≤ q ∧ q < 1000000
  hlen : h'.length = N - 111
  range : ∀ t ∈ T, 0 ≤ t ∧ 111 + t < (N : Int)
  few : T.length ≤ 110
  copies : ∀ (k : Nat) (t : Int), T[k]? = some t → Z[1 + k]? = h'[t.toNat]?
  rest : ∀ t : Nat, t < N - 111 → (t : Int) ∉ T → Z[111 + t]? = h'[t]?
  size : ∀ k, k < T.length → (Z.getD (1 + k) .empty).size = 256
  small : ∀ x ∈ Z, x.size ≤ 256
theorem head_readQ {q : Int} (h0 : 0 ≤ q) (h1 : q < 1000000) (W : World) : Calls Tryz.prog 30 #[.string (headQ q)] W fun e w' => ∃ A c, e = .returned (.tuple #[.agg #[.int .i64 q, .bool false, .slice A 0 c], .int .i64 0]) ∧ Below W.heap.size W w' := by
  unfold headQ
  by_cases hq : q = 0
  · subst hq
    rw [if_pos rfl]
    exact read_zero W
  · rw [if_neg hq]
    exact read_done h0 (by omega) W
theorem Fulls.ok {N : Nat} {q : Int} {h' Z : List ByteArray} {T : List Int} (h : Fulls N q h' T Z) : RedoOk N q Z T :=
  ⟨h.len, by have := h.dim; omega, h.few, h.range, by have := h.seq; omega, h.size, fun x hx => by have := h.small x hx; omega⟩
theorem Fulls.redone {N : Nat} {q : Int} {h' Z : List ByteArray} {T : List Int} (h : Fulls N q h' T Z) : Held N q h' (redoS Z q T) := by
  have hd := h.dim
  have key : ∀ (ts : List Int) (k : Nat) (s : List ByteArray), (∀ u ∈ ts, 0 ≤ u) → (∀ i t, ts[i]? = some t → Z[1 + (k + i)]? = h'[t.toNat]? ∧ t.toNat < h'.length) → ∀ t ∈ ts, (111 + t).toNat < s.length → (setI s (redoL Z k ts))[(111 + t).toNat]? = h'[t.toNat]? := by
    intro ts
    induction ts with
    | nil => intro k s _ _ t ht; cases ht
    | cons u r ih =>
      intro k s h0 hk t ht hlt
      rw [redoL, setI_cons]
      by_cases hr : t ∈ r
      · exact ih (k + 1) _ (fun v hv => h0 v (by simp [hv])) (fun i v hv => by have := hk (i + 1) v (by simpa using hv); rw [show k + 1 + i = k + (i + 1) by omega]; exact this) t hr (by simpa using hlt)
      · have htu : t = u := by
          rcases List.mem_cons.1 ht with h | h
          · exact h
          · exact absurd h hr
        subst htu
        rw [setI_far _ _ (fun x hx => ?_), List.getElem?_set_self hlt]
        · obtain ⟨h1, h2⟩ := hk 0 t (by simp)
          rw [Nat.add_zero] at h1
          rw [List.getD_eq_getElem?_getD, h1, List.getElem?_eq_getElem h2]
          rfl
        · obtain ⟨i, v, rfl, _, _, hv, _⟩ := redoL_at Z r (k + 1) x hx
          have h1 := h0 v (by simp [hv])
          have h3 := h0 t (by simp)
          simp only
          intro e
          have : v = t := by omega
          exact hr (this ▸ hv)
  have hl : (redoS Z q T).length = N := by unfold redoS; rw [setI_length, setI_length, h.len]
  refine ⟨hl, hd, ?_, by have := h.seq; omega, h.hlen, fun t ht => ?_, fold_small [redoL Z 0 T, [(0, doneB q)]] Z h.ok.fits h.small⟩
  · unfold redoS
    rw [setI_cons]
    show (List.set _ 0 _)[0]? = _
    rw [List.getElem?_set_self (by rw [setI_length, h.len]; omega)]
    unfold headQ
    rw [if_neg (by have := h.seq; omega)]
  · unfold redoS
    rw [setI_far [(0, doneB q)] _ (fun x hx => by rw [List.mem_singleton.1 hx]; simp only; omega)]
    by_cases hm : (t : Int) ∈ T
    · have := key T 0 Z (fun u hu => (h.range u hu).1) (fun i v hv => by
        have hr := h.range v (List.mem_of_getElem? hv)
        rw [Nat.zero_add]
        exact ⟨h.copies i v hv, by rw [h.hlen]; omega⟩) (t : Int) hm (by rw [h.len]; omega)
      rw [show (111 + (t : Int)).toNat = 111 + t by omega, Int.toNat_natCast] at this
      exact this
    · rw [setI_far (redoL Z 0 T) _ (fun x hx => ?_)]
      · exact h.rest t ht hm
      · obtain ⟨i, v, rfl, _, _, hv, _⟩ := redoL_at Z T 0 x hx
        have hr := h.range v hv
        simp only
        intro e
        have : v = (t : Int) := by omega
        exact hm (this ▸ hv)

/-- Where the power went in a commit: as ahead of it, full, or as behind it. -/
inductive LeftQ (N : Nat) (q : Int) (h : List ByteArray) (l : List Wr1) (T : List Int) (Y : List ByteArray) : Prop
  | old (k : Held N q h Y)
  | full (k : Fulls N (q + 1) (setI h l) T Y)
  | new (k : Held N (q + 1) (setI h l) Y)

section
variable {N : Nat} {q : Int} {h s : List ByteArray} {l : List Wr1} {T : List Int}
theorem home_next (hs : Held N q h s) (hok : CommitOk N q l T) {t : Nat} (ht : t < N - 111) : (setI h l)[t]? = if (t : Int) ∈ T then some (lastB l (t : Int)) else h[t]? := by
  have h0 : ∀ x ∈ l, 0 ≤ x.1 := fun x hx => (refE_ok hok.ok x hx).1
  rw [setI_get l t h (by rw [hs.hlen]; exact ht) h0]
  by_cases hm : (t : Int) ∈ T
  · rw [if_pos hm, lastO_yes l _ _ ((hok.mem _).1 hm)]
  · rw [if_neg hm, lastO_no l _ _ (fun hh => hm ((hok.mem _).2 hh))]
theorem held_next (hs : Held N q h s) (hok : CommitOk N q l T) (hq : q + 1 < 1000000) : Held N (q + 1) (setI h l) (doneS s q l T) := by
  have hd := hs.dim
  refine ⟨by rw [CommitOk.done_len]; exact hs.len, hd, ?_, by have := hs.seq; omega, by rw [setI_length]; exact hs.hlen, fun t ht => ?_, fold_small _ _ hok.fits hs.small⟩
  · rw [hok.done_head s hs.len]
    unfold headQ
    rw [if_neg (by have := hs.seq; omega)]
  · have := hok.done_at s hs.len (t := (t : Int)) (by omega) (by omega)
    rw [show (111 + (t : Int)).toNat = 111 + t by omega] at this
    rw [this, home_next hs hok ht, hs.home t ht]

theorem leftQ_cases (hs : Held N q h s) (hok : CommitOk N q l T) (hq : q + 1 < 1000000) {i : Nat} {g : List Wr1} {Y : List ByteArray}
    (hi : (groupsL q l T)[i]? = some g) (hp : Part (((groupsL q l T).take i).foldl setI s) (natW g) Y) : LeftQ N q h l T Y := by
  have hd := hs.dim
  have hf := hok.fits
  have hfew := hok.few
  have hcopy : ∀ (x : Wr1), x ∈ copiesL l 0 T → 1 ≤ x.1 ∧ x.1 ≤ 110 := fun x hx => by
    obtain ⟨k, t, rfl, a1, a2, a3⟩ := copies_at _ _ 0 x hx
    simp only
    omega
  have hhome : ∀ (x : Wr1), x ∈ homeL l T → ∃ t : Nat, (t : Int) ∈ T ∧ x.1 = 111 + (t : Int) ∧ t < N - 111 := fun x hx => by
    obtain ⟨t, ht, rfl⟩ := home_at _ _ hx
    have hr := hok.range t ht
    refine ⟨t.toNat, ?_, by simp only; omega, by omega⟩
    rw [show ((t.toNat : Nat) : Int) = t by omega]
    exact ht
  have hlen : ∀ (G : List (List Wr1)) (s : List ByteArray), (G.foldl setI s).length = s.length := by
    intro G
    induction G with
    | nil => intro s; rfl
    | cons g r ih => intro s; show (r.foldl setI (setI s g)).length = _; rw [ih, setI_length]
  have hsm := fold_small ((groupsL q l T).take i) s (fun g' hg' => hf g' (List.mem_of_mem_take hg')) hs.small
  have hYs := part_small hp hsm (hf g (List.mem_of_getElem? hi))
  have hYl : Y.length = N := by rw [hp.1, hlen, hs.len]
  have hqs := hs.seq
  have mkFull : Y[0]? = some (fullB (q + 1) T) → (∀ (k : Nat) (t : Int), T[k]? = some t → Y[1 + k]? = some (lastB l t)) → (∀ t : Nat, t < N - 111 → (t : Int) ∉ T → Y[111 + t]? = h[t]?) → Fulls N (q + 1) (setI h l) T Y := fun e1 e2 e3 => by
    refine ⟨hYl, hd, e1, hok.valid, by omega, by rw [setI_length]; exact hs.hlen, hok.range, hfew, fun k t ht => ?_, fun t ht hm => ?_, fun k hk => ?_, hYs⟩
    · have hr := hok.range t (List.mem_of_getElem? ht)
      rw [e2 k t ht, home_next hs hok (show t.toNat < N - 111 by omega), show ((t.toNat : Nat) : Int) = t by omega, if_pos (List.mem_of_getElem? ht)]
    · rw [e3 t ht hm, home_next hs hok ht, if_neg hm]
    · have ht : T[k]? = some (T[k]'hk) := List.getElem?_eq_getElem hk
      rw [List.getD_eq_getElem?_getD, e2 k _ ht]
      exact hok.size _ (List.mem_of_getElem? ht)
  have hcopyAt : ∀ (k : Nat) (t : Int), T[k]? = some t → (setI s (copiesL l 0 T))[1 + k]? = some (lastB l t) := fun k t ht => by
    have := copies_here l T 0 s (by rw [hs.len]; omega) k t ht
    rw [Nat.zero_add] at this
    exact this
  have hklt : ∀ (k : Nat) (t : Int), T[k]? = some t → k < T.length := fun k t ht => by
    rcases Nat.lt_or_ge k T.length with h | h
    · exact h
    · rw [List.getElem?_eq_none h] at ht; cases ht
  have hset0 : ∀ (X : List ByteArray) (v : ByteArray), X.length = N → (setI X [(0, v)])[0]? = some v := fun X v hX => by
    rw [setI_cons]
    show (List.set _ 0 _)[0]? = _
    rw [List.getElem?_set_self (by omega)]
  unfold groupsL at hi hp
  match i, hi with
  | 0, hi =>
    injection hi with hi
    subst hi
    have hp : Part s (natW (copiesL l 0 T)) Y := hp
    refine .old ⟨hYl, hd, ?_, hqs, hs.hlen, fun t ht => ?_, hYs⟩
    · rw [part_far hp (fun x hx => by have := hcopy x hx; omega)]; exact hs.head
    · rw [part_far hp (fun x hx => by have := hcopy x hx; omega)]; exact hs.home t ht
  | 1, hi =>
    injection hi with hi
    subst hi
    have hp : Part (setI s (copiesL l 0 T)) (natW [(0, bs (HD.mk (q + 1) true T).text)]) Y := hp
    rcases hp.2 0 with e | ⟨x, hx, _, e⟩
    · refine .old ⟨hYl, hd, ?_, hqs, hs.hlen, fun t ht => ?_, hYs⟩
      · rw [e, setI_far _ _ (fun x hx => by have := hcopy x hx; omega)]; exact hs.head
      · rw [part_far hp (fun x hx => by rw [List.mem_singleton.1 hx]; simp only; omega), setI_far _ _ (fun x hx => by have := hcopy x hx; omega)]; exact hs.home t ht
    · have hx : x = (((0 : Int)).toNat, bs (HD.mk (q + 1) true T).text) := List.mem_singleton.1 hx
      subst hx
      refine .full (mkFull e (fun k t ht => ?_) (fun t ht _ => ?_))
      · have := hklt k t ht
        rw [part_far hp (fun x hx => by rw [List.mem_singleton.1 hx]; simp only; omega)]
        exact hcopyAt k t ht
      · rw [part_far hp (fun x hx => by rw [List.mem_singleton.1 hx]; simp only; omega), setI_far _ _ (fun x hx => by have := hcopy x hx; omega)]; exact hs.home t ht
  | 2, hi =>
    injection hi with hi
    subst hi
    have hp : Part (setI (setI s (copiesL l 0 T)) [(0, bs (HD.mk (q + 1) true T).text)]) (natW (homeL l T)) Y := hp
    refine .full (mkFull ?_ (fun k t ht => ?_) (fun t ht hm => ?_))
    · rw [part_far hp (fun x hx => by obtain ⟨u, _, e, _⟩ := hhome x hx; omega)]
      exact hset0 _ _ (by rw [setI_length, hs.len])
    · have := hklt k t ht
      rw [part_far hp (fun x hx => by obtain ⟨u, _, e, _⟩ := hhome x hx; omega), setI_far _ _ (fun x hx => by rw [List.mem_singleton.1 hx]; simp only; omega)]
      exact hcopyAt k t ht
    · rw [part_far hp (fun x hx => by
        obtain ⟨u, hu, e, _⟩ := hhome x hx
        intro e2
        have : u = t := by omega
        exact hm (this ▸ hu)), setI_far _ _ (fun x hx => by rw [List.mem_singleton.1 hx]; simp only; omega), setI_far _ _ (fun x hx => by have := hcopy x hx; omega)]
      exact hs.home t ht
  | 3, hi =>
    injection hi with hi
    subst hi
    have hp : Part (setI (setI (setI s (copiesL l 0 T)) [(0, bs (HD.mk (q + 1) true T).text)]) (homeL l T)) (natW [(0, bs (HD.mk (q + 1) false []).text)]) Y := hp
    have hrest : ∀ t : Nat, t < N - 111 → Y[111 + t]? = (doneS s q l T)[111 + t]? := fun t ht => by
      rw [part_far hp (fun x hx => by rw [List.mem_singleton.1 hx]; simp only; omega)]
      unfold doneS groupsL
      simp only [List.foldl_cons, List.foldl_nil]
      rw [setI_far [(0, bs (HD.mk (q + 1) false []).text)] _ (fun x hx => by rw [List.mem_singleton.1 hx]; simp only; omega)]
    have hnx := held_next hs hok hq
    rcases hp.2 0 with e | ⟨x, hx, _, e⟩
    · refine .full (mkFull ?_ (fun k t ht => ?_) (fun t ht hm => ?_))
      · rw [e, setI_far _ _ (fun x hx => by obtain ⟨u, _, e, _⟩ := hhome x hx; omega)]
        exact hset0 _ _ (by rw [setI_length, hs.len])
      · have := hklt k t ht
        rw [part_far hp (fun x hx => by rw [List.mem_singleton.1 hx]; simp only; omega), setI_far _ _ (fun x hx => by obtain ⟨u, _, e, _⟩ := hhome x hx; omega), setI_far _ _ (fun x hx => by rw [List.mem_singleton.1 hx]; simp only; omega)]
        exact hcopyAt k t ht
      · rw [hrest t ht, hnx.home t ht, home_next hs hok ht, if_neg hm]
    · have hx : x = (((0 : Int)).toNat, bs (HD.mk (q + 1) false []).text) := List.mem_singleton.1 hx
      subst hx
      refine .new ⟨hYl, hd, ?_, by omega, by rw [setI_length]; exact hs.hlen, fun t ht => by rw [hrest t ht]; exact hnx.home t ht, hYs⟩
      rw [e]
      unfold headQ
      rw [if_neg (by omega)]
      rfl
end
end Go.Proofs.YtbaanoomilohhaaGreatDoor

namespace Go.Proofs.YtbaanoomilohhaaGreatDoor
open Go.RowKit
variable {w : World} {gw gd : Nat} {O : List Nat} {S : DS} {seq k : Int} {n : Nat}

theorem on_read (h : S.on = true) {x : ByteArray} {i : Nat} (hx : S.now[i]? = some x) : S.read (i : Int) = x ∧ S.errR (i : Int) = 0 := by
  have hi : i < S.now.length := by
    rcases Nat.lt_or_ge i S.now.length with h' | h'
    · exact h'
    · rw [List.getElem?_eq_none h'] at hx; cases hx
  constructor
  · unfold DS.read
    rw [if_pos ⟨h, by omega, by omega⟩, Int.toNat_natCast, List.getD_eq_getElem?_getD, hx]
    rfl
  · unfold DS.errR
    rw [if_pos h, if_pos ⟨by omega, by omega⟩]

def IsHome (Z h : List ByteArray) : Prop := ∀ t : Nat, t < h.length → Z[111 + t]? = h[t]?

set_option maxRecDepth 100000 in
set_option maxHeartbeats 4000000 in
theorem is_any (h : Blk w gw 66 (walC gd seq true k)) (hd : DiskAt w O gd S) (hon : S.on = true) (hn : S.now.length = n) (h1 : 111 ≤ n) (h2 : n ≤ 2000) (hz : ∀ x ∈ S.now, x.size ≤ 100000)
    (A : Option Addr) (c : Nat) (xs : List ByteArray) (hx : Txts w w.heap.size A xs) (hl : xs.length = n - 111) :
    Calls Tryz.prog 19 #[.pointer (some ⟨gw, 0, none⟩), .slice A (xs.length) c] w fun e w' => (∃ r : Bool, e = .returned (.bool r) ∧ (r = true ↔ IsHome S.now xs)) ∧ Below w.heap.size w w' := by
  have HH := Lib.hid h
  have HD := Lib.hid hd
  have HX := Lib.hid hx
  have HZ := Lib.hid hz
  have HON := Lib.hid hon
  have HNL := Lib.hid hn
  obtain ⟨m, hm⟩ : ∃ m, m = xs.length := ⟨_, rfl⟩
  rw [← hm]
  have HM := Lib.hid hm
  have hmn : m + 111 = n := by omega
  clear h hd hx hz hon hl hm hn
  go_enter Tryz.func19, Tryz.ntmps19
  go_wp2_with fail
  go_loopw [5, 6, 7] (fun i _ _ wr => ∃ (j : Nat), j ≤ m ∧ i = .int .i64 j ∧ (∀ u : Nat, u < j → S.now[111 + u]? = xs[u]?) ∧ Below w.heap.size w wr) (fun i _ _ _ => m - (intOf i).toNat)
  case atStart => exact ⟨0, Nat.zero_le _, rfl, fun u hu => absurd hu (by omega), Below.refl _ _⟩
  case round =>
    obtain ⟨j, hj, rfl, hdone, hbr⟩ := hrel
    have HDN := Lib.hid hdone
    have HB := Lib.hid hbr
    clear hdone hbr
    by_cases hlt : j < m
    · have hxl : j < xs.length := by rw [← HM.out]; exact hlt
      obtain ⟨b, off, hA, hbB, hc⟩ := HX.out (by omega)
      obtain ⟨x, hx⟩ : ∃ x, x = xs[j] := ⟨_, rfl⟩
      have hxj : xs[j]? = some x := by rw [hx]; exact List.getElem?_eq_getElem hxl
      have HXJ := Lib.hid hxj
      have HCX : Hid (∀ W, Below w.heap.size w W → W.cell? ⟨b, off + j, none⟩ = some (.string x)) := Lib.hid (fun W hW => (hW.cell (p := ⟨b, off + j, none⟩) hbB).trans (hc j x hxj))
      clear hxj hc hx
      subst hA
      have hyl : 111 + j < S.now.length := by rw [HNL.out]; omega
      obtain ⟨y, hy⟩ : ∃ y, y = S.now[111 + j] := ⟨_, rfl⟩
      have hyj : S.now[111 + j]? = some y := by rw [hy]; exact List.getElem?_eq_getElem hyl
      have HYJ := Lib.hid hyj
      have HRD : Hid (∀ W, Below w.heap.size w W → Calls Tryz.prog 22 #[.pointer (some ⟨gw, 0, none⟩), .int .i64 j] W fun e w' => e = .returned (.tuple #[.string y, .int .i64 0]) ∧ Below W.heap.size W w') := Lib.hid (fun W hW => by
        have := wread_any (j : Int) (HH.out.below hW HH.out.lt) (HD.out.below hW) HNL.out h1 h2 HZ.out
        rw [if_pos ⟨by omega, by omega⟩] at this
        have e := on_read HON.out HYJ.out
        rw [show (111 : Int) + (j : Int) = ((111 + j : Nat) : Int) by omega, e.1, e.2] at this
        exact this)
      clear hy hyj hyl hxl
      go_wp2_with fail
      refine (HRD.out _ HB.out).mono ?_
      rintro e w1 ⟨rfl, hb1⟩
      have HB1 := Lib.hid (HB.out.trans (hb1.mono HB.out.size))
      clear hb1
      have hcx := HCX.out _ HB1.out
      by_cases hxy : y = x
      · have hbe : (y.toList == x.toList) = true := by rw [hxy]; simp
        have HXY := Lib.hid hxy
        clear hxy
        go_wp2_with fail
        go_roundw
        case rel =>
          refine ⟨j + 1, by omega, by go_num, fun u hu => ?_, HB1.out⟩
          rcases Nat.lt_or_ge u j with h' | h'
          · exact HDN.out u h'
          · obtain rfl : u = j := by omega
            rw [HYJ.out, HXJ.out, HXY.out]
        case measure => simp [intOf]; omega
      · have hbe : (y.toList == x.toList) = false := by
          rw [Lib.toList_data, Lib.toList_data]
          simp only [beq_eq_false_iff_ne, ne_eq]
          intro e
          exact hxy (ByteArray.ext (Array.toList_inj.1 e))
        have HXY := Lib.hid hxy
        clear hxy
        go_wp2_with fail
        go_ret
        refine ⟨⟨false, rfl, ?_⟩, HB1.out⟩
        constructor
        · intro h; cases h
        · intro h
          have := h j (by rw [← HM.out]; exact hlt)
          rw [HYJ.out, HXJ.out] at this
          exact absurd (Option.some.inj this) HXY.out
    · obtain rfl : j = m := by omega
      have HSZ : Hid (∀ W, Below w.heap.size w W → Calls Tryz.prog 24 #[.pointer (some ⟨gw, 0, none⟩)] W fun e w' => e = .returned (.int .i64 (j : Int)) ∧ W = w') := Lib.hid (fun W hW => by
        have := wsize_any (HH.out.below hW HH.out.lt) (HD.out.below hW) HNL.out h1 h2
        rwa [show (n : Int) - 111 = (j : Int) by omega] at this)
      go_wp2_with fail
      refine (HSZ.out _ HB.out).mono ?_
      rintro e w1 ⟨rfl, rfl⟩
      go_wp2_with fail
      go_ret
      exact ⟨⟨true, by simp, fun _ u hu => HDN.out u (by rw [HM.out]; exact hu), fun _ => rfl⟩, HB.out⟩
end Go.Proofs.YtbaanoomilohhaaGreatDoor

namespace Go.Proofs.YtbaanoomilohhaaGreatDoor
open Go.RowKit

theorem setI_snoc (h : List ByteArray) {l : List Wr1} {j : Nat} {x : Wr1} (hx : l[j]? = some x) : setI h (l.take (j + 1)) = (setI h (l.take j)).set x.1.toNat x.2 := by
  rw [List.take_add_one, hx]
  simp [setI, List.foldl_append]

set_option maxRecDepth 100000 in
set_option maxHeartbeats 4000000 in
theorem after_any (w : World) (ad : Addr) (c : Nat) (h : List ByteArray) (hx : Txts w w.heap.size (some ad) h) (h0 : 0 < h.length) (hl : h.length ≤ 2000)
    (A : Option Addr) (cl : Nat) (l : List Wr1) (O : List Nat) (hw : Wrts w O A l) (hll : l.length ≤ 100000) (hr : ∀ x ∈ l, 0 ≤ x.1 ∧ x.1 < (h.length : Int)) :
    Calls Tryz.prog 14 #[.slice (some ad) h.length c, .slice A l.length cl] w fun e w' => ∃ g cap, e = .returned (.slice (some ⟨g, 0, none⟩) h.length cap) ∧ w.heap.size ≤ g ∧ Txts w' w'.heap.size (some ⟨g, 0, none⟩) (setI h l) ∧ Below w.heap.size w w' := by
  obtain ⟨i0, hi, hz0, hz1, hz2⟩ := info_parts cltexts_info
  obtain ⟨m, hm⟩ : ∃ m, m = h.length := ⟨_, rfl⟩
  obtain ⟨n, hn⟩ : ∃ n, n = l.length := ⟨_, rfl⟩
  rw [← hm, ← hn]
  have HX := Lib.hid hx
  have HW := Lib.hid hw
  have HR := Lib.hid hr
  have HM := Lib.hid hm
  have HNL := Lib.hid hn
  have hm0 : 0 < m := by omega
  have hml : m ≤ 2000 := by omega
  have hnl : n ≤ 100000 := by omega
  have hnews : ∀ (j : Nat) (u : Value), (h.map Value.string)[j]? = some u → w.cell? (ad.add j) = some u := by
    intro j u hu
    obtain ⟨b, off, e, hB, hc⟩ := hx h0
    injection e with e
    subst e
    rw [List.getElem?_map] at hu
    obtain ⟨x, hx, rfl⟩ := Option.map_eq_some_iff.1 hu
    rw [Go.WideShapes.add_plain]
    exact hc j x hx
  have hone : ∀ u ∈ h.map Value.string, u.oneCell' = true := by
    intro u hu
    obtain ⟨x, _, rfl⟩ := List.mem_map.1 hu
    rfl
  have HN := Lib.hid hnews
  have HO := Lib.hid hone
  clear hnews hone hx hw hr hm hn h0 hl hll
  go_enter Tryz.func14, Tryz.ntmps14
  go_wp2_with (at_builtin; refine wpList_append_own _ rfl _ _ 32 rfl w.heap.size 9 i0 (.string .empty) 1 16 Tryz.underlying32 hi hz0 hz1 hz2 rfl (by omega) (.slice none 0 0) 0 [] rfl (World.ownsRow_nil _ _ _ _) ad m c (h.map Value.string) rfl (by rw [List.length_map, HM.out]; omega) HN.out HO.out (by unfold maxLen; omega) (by omega) (Nat.le_refl _) ?_; intro v1 w1 hown1 hg1 _)
  have hb1 : Below w.heap.size w w1 := (Below.refl _ _).grown hg1 (Nat.le_refl _) (by simp [Value.ownBlock])
  clear hg1
  have HB := Lib.hid hb1
  rw [List.nil_append, Nat.zero_add] at hown1
  obtain ⟨p, cap, rfl, s1, s2, s3, s4⟩ := row_slice hown1
  have hpn : p ≠ none := fun e => by have := s3 e; omega
  obtain ⟨a, rfl⟩ := Option.ne_none_iff_exists'.1 hpn
  have ha := s4 a rfl
  obtain ⟨g, hg⟩ : ∃ g, g = a.block := ⟨_, rfl⟩
  rw [← hg] at ha
  subst ha
  have hgl := hown1.lt g rfl
  have HG : Hid (w.heap.size ≤ g) := Lib.hid hgl.1
  have HOW := Lib.hid hown1
  clear hown1 s3 s4 hpn hg hgl hb1
  go_wp2_with fail
  go_loopw [6] (fun i wr => ∃ (j : Nat), j ≤ n ∧ i = .int .i64 j ∧ wr.ownsRow w.heap.size 9 1 (.slice (some ⟨g, 0, none⟩) m cap) m ((setI h (l.take j)).map Value.string) ∧ Below w.heap.size w wr) (fun i _ => n - (intOf i).toNat)
  case atStart => exact ⟨0, Nat.zero_le _, rfl, HOW.out, HB.out⟩
  case round =>
    obtain ⟨j, hj, rfl, hrow, hbr⟩ := hrel
    have HRW := Lib.hid hrow
    have HBR := Lib.hid hbr
    clear hrow hbr
    by_cases hlt : j < n
    · have hjl : j < l.length := by rw [← HNL.out]; exact hlt
      obtain ⟨b, off, hA, hbB, hbO, hc⟩ := HW.out (by omega)
      obtain ⟨x, hx⟩ : ∃ x, x = l[j] := ⟨_, rfl⟩
      have hxj : l[j]? = some x := by rw [hx]; exact List.getElem?_eq_getElem hjl
      obtain ⟨r0, r1⟩ := HR.out x (List.mem_of_getElem? hxj)
      have E1 := Lib.hid (setI_snoc h hxj)
      obtain ⟨d0, d1⟩ := hc j x hxj
      obtain ⟨xi, xs⟩ := x
      obtain ⟨xa, hxa⟩ : ∃ xa : Nat, xa = xi.toNat := ⟨_, rfl⟩
      simp only at r0 r1 d0 d1
      have hxe : xi = (xa : Int) := by omega
      simp only [← hxa] at E1
      subst hxe
      rw [← HM.out] at r1
      have hxm : xa < m := by omega
      have d0' : wr.cell? ⟨b, off + j * 2, none⟩ = some (.int .i64 (xa : Int)) := (HBR.out.cell (p := ⟨b, off + j * 2, none⟩) hbB).trans d0
      have d1' : wr.cell? ⟨b, off + j * 2 + 1, none⟩ = some (.string xs) := (HBR.out.cell (p := ⟨b, off + j * 2 + 1, none⟩) hbB).trans d1
      have hlen : (setI h (l.take j)).length = m := by rw [setI_length, HM.out]
      obtain ⟨y, hy⟩ : ∃ y, y = (setI h (l.take j))[xa] := ⟨_, rfl⟩
      have hyj : (setI h (l.take j))[xa]? = some y := by rw [hy]; exact List.getElem?_eq_getElem (by omega)
      have q0 := row_cell HRW.out (i := xa) (u := .string y) (by rw [List.getElem?_map, hyj]; rfl)
      have q1 := row_frozen HRW.out xa
      subst hA
      clear hx hxj hc d0 d1 hxa hlen hy hyj hjl hbO r0 r1 hi hz0 hz1 hz2
      go_upto_region 5 with fail
      go_still_tail 12, (by kernel_rfl)
      change wpList _ _ _ _ _ wr.drew
      go_wp2_with fail
      go_roundw
      case rel =>
        refine ⟨j + 1, by omega, by go_num, ?_, ?_⟩
        · rw [E1.out, List.map_set]
          exact row_kept (row_put HRW.out (i := xa) (.string xs)) (fun _ _ => rfl)
        · exact (HBR.out.drew).setCell HG.out _
      case measure => simp [intOf]; omega
    · obtain rfl : j = n := by omega
      have htk : l.take j = l := List.take_of_length_le (by rw [HNL.out]; exact Nat.le_refl _)
      rw [htk] at HRW
      clear htk
      go_wp2_with fail
      go_ret
      refine ⟨g, cap, rfl, HG.out, fun _ => ⟨g, 0, rfl, (HRW.out.lt g rfl).2, fun j x hx => ?_⟩, HBR.out⟩
      have := row_cell HRW.out (i := j) (u := .string x) (by rw [List.getElem?_map, hx]; rfl)
      rwa [Nat.zero_add]
end Go.Proofs.YtbaanoomilohhaaGreatDoor

namespace Go.Proofs.YtbaanoomilohhaaGreatDoor
open Go.RowKit

theorem redo_home {n j : Nat} {Y : List ByteArray} {q : Int} (hl : Y.length = 200) (h2 : n ≤ 60) (hc : ∀ k : Nat, k < n → Y[1 + k]? = some (roundB j)) : ∀ t : Nat, t < n → (redoS Y q (rangeI n))[111 + t]? = some (roundB j) := by
  have key : ∀ (ts : List Int) (k : Nat) (s : List ByteArray), (∀ u ∈ ts, 0 ≤ u) → (∀ i, i < ts.length → Y.getD (1 + (k + i)) .empty = roundB j) → ∀ t ∈ ts, (111 + t).toNat < s.length → (setI s (redoL Y k ts))[(111 + t).toNat]? = some (roundB j) := by
    intro ts
    induction ts with
    | nil => intro k s _ _ t ht; cases ht
    | cons u r ih =>
      intro k s h0 hk t ht hlt
      rw [redoL, setI_cons]
      by_cases hr : t ∈ r
      · exact ih (k + 1) _ (fun v hv => h0 v (by simp [hv])) (fun i hi => by have := hk (i + 1) (by simp only [List.length_cons]; omega); rw [show k + 1 + i = k + (i + 1) by omega]; exact this) t hr (by simpa using hlt)
      · have htu : t = u := by
          rcases List.mem_cons.1 ht with h | h
          · exact h
          · exact absurd h hr
        subst htu
        rw [setI_far _ _ (fun x hx => ?_), List.getElem?_set_self hlt]
        · have := hk 0 (by simp)
          rw [Nat.add_zero] at this
          rw [this]
        · obtain ⟨i, v, rfl, _, _, hv, _⟩ := redoL_at Y r (k + 1) x hx
          have h1 := h0 v (by simp [hv])
          have h3 := h0 t (by simp)
          simp only
          intro e
          have : v = t := by omega
          exact hr (this ▸ hv)
  intro t ht
  unfold redoS
  rw [setI_far [(0, doneB q)] _ (fun x hx => by rw [List.mem_singleton.1 hx]; simp only; omega)]
  have := key (rangeI n) 0 Y (fun u hu => (rangeI_mem.1 hu).1) (fun i hi => by
    rw [rangeI_len] at hi
    rw [Nat.zero_add, List.getD_eq_getElem?_getD, hc i hi]
    rfl) (t : Int) (rangeI_mem.2 (by omega)) (by omega)
  rw [show (111 + (t : Int)).toNat = 111 + t by omega] at this
  exact this
theorem redo_ok {n j : Nat} {Y : List ByteArray} (hl : Y.length = 200) (h2 : n ≤ 60) (hj : j < 100) (hs : ∀ x ∈ Y, x.size ≤ 256) (hc : ∀ k : Nat, k < n → Y[1 + k]? = some (roundB j)) : RedoOk 200 ((j : Int) + 1) Y (rangeI n) :=
  ⟨hl, by omega, by rw [rangeI_len]; omega, fun t ht => by have := rangeI_mem.1 ht; omega, by omega, fun k hk => by
    rw [rangeI_len] at hk
    rw [List.getD_eq_getElem?_getD, hc k hk]
    exact roundB_size j, fun x hx => by have := hs x hx; omega⟩

/-- Opened anew: all home sectors are as ahead of the commit, or as behind it. -/
theorem again_left {w : World} {gd n j : Nat} {O : List Nat} {S : DS} {Y : List ByteArray} {bad : Prop} (hd : DiskAt w O gd S) (hS : Dead S Y) (hL : Left9 n j Y) (hb : bad ∨ Inv9 n (j + 1) Y) (h1 : 1 ≤ n) (h2 : n ≤ 60) (hj : j < 99) (hw : S.writes < 700000000000) :
    Calls Tryz.prog 18 #[.pointer (some ⟨gd, 0, none⟩)] w fun e w' => ∃ gw, e = .returned (.pointer (some ⟨gw, 0, none⟩)) ∧ ∃ Z wz q F, OpenedAt O gd gw (calm Z wz) q w w' ∧ Z.length = 200 ∧ (∀ x ∈ Z, x.size ≤ 256) ∧ (∀ t : Nat, t < n → Z[111 + t]? = some F) ∧ (F = roundB j ∨ (bad ∧ F = oldB j)) := by
  have hre := hS.restored
  have plain : ∀ (i : Nat), i ≤ 100 → Inv9 n i Y → ∀ W O1, DiskAt W O1 gd S.restore → Calls Tryz.prog 7 #[.pointer (some ⟨gd, 0, none⟩)] W fun e w' => ∃ gw, e = .returned (.tuple #[.pointer (some ⟨gw, 0, none⟩), .int .i64 0]) ∧ OpenedAt O1 gd gw (calm Y S.writes) (i : Int) W w' := fun i hi hI W O1 hd1 => by
    rw [hre] at hd1
    refine (wopen_plain hd1 (fun x hx => by have := hI.small x hx; omega) rfl (by show 0 < Y.length; rw [hI.len]; omega) (calm_read (n := S.writes) hI.head).1 (head_read hi)).mono ?_
    rintro e w' ⟨gw, rfl, k1, k2, k3⟩
    exact ⟨gw, rfl, OpenedAt.of_plain hd1 k1 k2 k3⟩
  have isnew : Inv9 n (j + 1) Y → Calls Tryz.prog 18 #[.pointer (some ⟨gd, 0, none⟩)] w fun e w' => ∃ gw, e = .returned (.pointer (some ⟨gw, 0, none⟩)) ∧ ∃ Z wz q F, OpenedAt O gd gw (calm Z wz) q w w' ∧ Z.length = 200 ∧ (∀ x ∈ Z, x.size ≤ 256) ∧ (∀ t : Nat, t < n → Z[111 + t]? = some F) ∧ (F = roundB j ∨ (bad ∧ F = oldB j)) := fun h => by
    refine (wagain_any hd (plain (j + 1) (by omega) h)).mono ?_
    rintro e w' ⟨gw, rfl, ho⟩
    exact ⟨gw, rfl, Y, _, _, roundB j, ho, h.len, h.small, h.home, .inl rfl⟩
  rcases hb with hbad | hnew
  · cases hL with
    | old h =>
      refine (wagain_any hd (plain j (by omega) h)).mono ?_
      rintro e w' ⟨gw, rfl, ho⟩
      exact ⟨gw, rfl, Y, _, _, oldB j, ho, h.len, h.small, h.home, .inr ⟨hbad, rfl⟩⟩
    | full hl hs h0 hc =>
      have hro := redo_ok hl h2 (show j < 100 by omega) hs hc
      have hv : (HD.mk ((j : Int) + 1) true (rangeI n)).validB = true := (many_ok j h1 h2 (q := (j : Int)) (by omega)).valid
      refine (wagain_any (S' := calm (redoS Y ((j : Int) + 1) (rangeI n)) (S.writes + ((rangeI n).length + 1))) (q := (j : Int) + 1) hd (fun W O1 hd1 => ?_)).mono ?_
      · rw [hre] at hd1
        exact wopen_full hd1 hro hv h0 (by omega)
      rintro e w' ⟨gw, rfl, ho⟩
      refine ⟨gw, rfl, _, _, _, roundB j, ho, ?_, ?_, redo_home hl h2 hc, .inl rfl⟩
      · unfold redoS; rw [setI_length, setI_length, hl]
      · exact fold_small [redoL Y 0 (rangeI n), [(0, doneB ((j : Int) + 1))]] Y hro.fits hs
    | new h => exact isnew h
  · exact isnew hnew

/-- The last commit, and the crash behind it. -/
theorem final_commit {n j w0 : Nat} {s : List ByteArray} {a k : Int} {keep : List Int} (h : Inv9 n j s) (h1 : 1 ≤ n) (h2 : n ≤ 60) (hj : j < 99) (ha : 0 ≤ a) (hw : w0 < 600000000000) :
    ∃ R Y, R = commitR ((calm s w0).arm a keep) (j : Int) k (manyP n j n) ∧ Left9 n j Y ∧ Dead (R.S.crash keep) Y ∧ (R.e ≠ 0 ∨ Inv9 n (j + 1) Y) ∧ R.S.Ok ∧ (R.S.crash keep).writes < 700000000000 := by
  obtain ⟨S, hS⟩ : ∃ S, S = (calm s w0).arm a keep := ⟨_, rfl⟩
  rw [← hS]
  have hcl : Clean S s := by
    rw [hS]
    unfold DS.arm
    rw [if_neg (by omega)]
    exact ⟨rfl, rfl, rfl, rfl⟩
  have hSw : S.writes = w0 := by
    rw [hS]
    unfold DS.arm
    rw [if_neg (by omega)]
    rfl
  have hok := many_ok j h1 h2 (q := (j : Int)) (by omega)
  have hnl : S.now.length = 200 := by rw [hcl.now, h.len]
  obtain ⟨G, hG⟩ : ∃ G, G = groupsL (j : Int) (manyP n j n) (rangeI n) := ⟨_, rfl⟩
  have hR : commitR S (j : Int) k (manyP n j n) = if putE S G = 0 then ⟨putS S G, (j : Int) + 1, true, k + 1, 0⟩ else ⟨putS S G, (j : Int), false, k, putE S G⟩ := by
    unfold commitR
    rw [hnl, if_neg (fun hh => hh hok.ok), if_neg (by have := hok.pos; omega), ← hok.eq, if_neg (by have := hok.few; omega), ← hG]
  have hGw : sumL G ≤ 1000 := by
    rw [hG]
    unfold groupsL sumL
    simp only [List.foldr_cons, List.foldr_nil, copiesL_length, homeL_length, List.length_cons, List.length_nil, rangeI_len]
    omega
  have hpw := putS_writes G S
  have hpo := putS_ok G S hcl.ok
  have hcw : ∀ T : DS, (T.crash keep).writes = T.writes := fun T => by unfold DS.crash; split <;> rfl
  have hwr : ((putS S G).crash keep).writes < 700000000000 := by rw [hcw]; omega
  rw [hR]
  rcases put_cases G S s hcl (fun g hg => by rw [h.len]; rw [hG] at hg; exact hok.fits g hg) with ⟨e0, hc⟩ | ⟨e14, i, g, Y, hi, hp, hdead⟩
  · have hd : Dead ((putS S G).crash keep) (G.foldl setI s) := by
      have := crash_dead hc.on keep
      rw [hc.dirty, hc.safe] at this
      exact this
    have hnew : Inv9 n (j + 1) (G.foldl setI s) := by
      rw [hG]
      exact h.next h1 h2 (by omega)
    rw [if_pos e0]
    exact ⟨_, _, rfl, .new hnew, hd, .inr hnew, hpo, hwr⟩
  · rw [if_neg (by rw [e14]; decide)]
    refine ⟨_, Y, rfl, ?_, ?_, .inl (by show putE S G ≠ 0; rw [e14]; decide), hpo, hwr⟩
    · rw [hG] at hi hp
      exact left_cases h h1 h2 (by omega) hi hp
    · show Dead ((putS S G).crash keep) Y
      rw [hdead.crash]
      exact hdead

end Go.Proofs.YtbaanoomilohhaaGreatDoor

namespace Go.Proofs.YtbaanoomilohhaaGreatDoor
open Go.RowKit
variable {w : World} {gd gw N : Nat} {O : List Nat} {S : DS} {q : Int} {h s Y : List ByteArray} {l : List Wr1}

theorem headQ_zero (N : Nat) (hN : 140 ≤ N ∧ N ≤ 400) : Held N 0 (List.replicate (N - 111) (zeroB 256)) (List.replicate N (zeroB 256)) := by
  refine ⟨by simp, hN, ?_, by omega, by simp, fun t ht => ?_, fun x hx => ?_⟩
  · rw [List.getElem?_replicate, if_pos (by omega)]; rfl
  · rw [List.getElem?_replicate, if_pos (by omega), List.getElem?_replicate, if_pos ht]
  · rw [(List.mem_replicate.1 hx).2, zeroB_size]; exact Nat.le_refl _
/-- Opened as it stands, its head done. -/
theorem open_held (hd : DiskAt w O gd S) (hon : S.on = true) (hs : Held N q h S.now) : Calls Tryz.prog 7 #[.pointer (some ⟨gd, 0, none⟩)] w fun e w' => ∃ gw, e = .returned (.tuple #[.pointer (some ⟨gw, 0, none⟩), .int .i64 0]) ∧ OpenedAt O gd gw S q w w' := by
  have hdm := hs.dim
  refine (wopen_plain hd (fun x hx => by have := hs.small x hx; omega) hon (by rw [hs.len]; omega) (on_read hon hs.head).1 (head_readQ hs.seq.1 hs.seq.2)).mono ?_
  rintro e w' ⟨gw, rfl, k1, k2, k3⟩
  exact ⟨gw, rfl, OpenedAt.of_plain hd k1 k2 k3⟩
/-- Opened anew behind a crash. -/
theorem again_held (hd : DiskAt w O gd S) (hS : Dead S Y) (hs : Held N q h Y) : Calls Tryz.prog 18 #[.pointer (some ⟨gd, 0, none⟩)] w fun e w' => ∃ gw, e = .returned (.pointer (some ⟨gw, 0, none⟩)) ∧ OpenedAt O gd gw (calm Y S.writes) q w w' := by
  refine wagain_any hd (fun W O1 hd1 => ?_)
  rw [hS.restored] at hd1
  exact open_held hd1 rfl hs
theorem again_full {T : List Int} (hd : DiskAt w O gd S) (hS : Dead S Y) (hs : Fulls N q h T Y) (hw : S.writes < 700000000000) : Calls Tryz.prog 18 #[.pointer (some ⟨gd, 0, none⟩)] w fun e w' => ∃ gw, e = .returned (.pointer (some ⟨gw, 0, none⟩)) ∧ OpenedAt O gd gw (calm (redoS Y q T) (S.writes + (T.length + 1))) q w w' := by
  refine wagain_any hd (fun W O1 hd1 => ?_)
  rw [hS.restored] at hd1
  exact wopen_full hd1 hs.ok hs.valid hs.head (by omega)
theorem clean_calm (s : List ByteArray) (n : Nat) : Clean (calm s n) s := ⟨rfl, rfl, rfl, rfl⟩
theorem again_leftQ {T : List Int} (hd : DiskAt w O gd S) (hS : Dead S Y) (hl : LeftQ N q h l T Y) (hw : S.writes < 700000000000) : Calls Tryz.prog 18 #[.pointer (some ⟨gd, 0, none⟩)] w fun e w' => ∃ gw, e = .returned (.pointer (some ⟨gw, 0, none⟩)) ∧ ∃ Z wz q' h', OpenedAt O gd gw (calm Z wz) q' w w' ∧ Held N q' h' Z ∧ ((q' = q ∧ h' = h) ∨ (q' = q + 1 ∧ h' = setI h l)) ∧ wz ≤ S.writes + 200 := by
  cases hl with
  | old k =>
    refine (again_held hd hS k).mono ?_
    rintro e w' ⟨gw, rfl, ho⟩
    exact ⟨gw, rfl, Y, _, _, _, ho, k, .inl ⟨rfl, rfl⟩, by omega⟩
  | full k =>
    refine (again_full hd hS k hw).mono ?_
    rintro e w' ⟨gw, rfl, ho⟩
    have := k.few
    exact ⟨gw, rfl, _, _, _, _, ho, k.redone, .inr ⟨rfl, rfl⟩, by omega⟩
  | new k =>
    refine (again_held hd hS k).mono ?_
    rintro e w' ⟨gw, rfl, ho⟩
    exact ⟨gw, rfl, Y, _, _, _, ho, k, .inr ⟨rfl, rfl⟩, by omega⟩

theorem Clean.crash (hc : Clean S s) (keep : List Int) : Dead (S.crash keep) s := by
  have := crash_dead hc.on keep
  rw [hc.dirty, hc.safe] at this
  exact this
theorem crash_writes (T : DS) (keep : List Int) : (T.crash keep).writes = T.writes := by unfold DS.crash; split <;> rfl
theorem arm_writes (T : DS) (a : Int) (keep : List Int) : (T.arm a keep).writes = T.writes := by unfold DS.arm; split <;> rfl
theorem Clean.armed (hc : Clean S s) {a : Int} (ha : 0 ≤ a) (keep : List Int) : Clean (S.arm a keep) s := by
  unfold DS.arm
  rw [if_neg (by omega)]
  exact ⟨hc.on, hc.now, hc.safe, hc.dirty⟩
theorem arm_left {a : Int} (ha : 0 ≤ a) (keep : List Int) : (S.arm a keep).left = a.toNat := by
  unfold DS.arm
  rw [if_neg (by omega)]

/-- The ways of a commit upon a clean disk, armed or not. -/
inductive Ways (N : Nat) (S : DS) (s : List ByteArray) (q k : Int) (h : List ByteArray) (l : List Wr1) : CR → Prop
  | no (e : Int) (he : e ≠ 0) (hr : (refE ((N : Int) - 111) l = e) ∨ (refE ((N : Int) - 111) l = 0 ∧ 110 < (putOnce (l.map Prod.fst)).length ∧ e = 21)) : Ways N S s q k h l ⟨S, q, true, k, e⟩
  | none (hl : l = []) : Ways N S s q k h l ⟨S, q, true, k, 0⟩
  | done (S' : DS) (s' : List ByteArray) (hp : 0 < l.length) (hr : refE ((N : Int) - 111) l = 0) (hf : (putOnce (l.map Prod.fst)).length ≤ 110) (hc : Clean S' s') (hh : Held N (q + 1) (setI h l) s') (hok : S'.Ok) (hw : S'.writes ≤ S.writes + 300) : Ways N S s q k h l ⟨S', q + 1, true, k + 1, 0⟩
  | gone (S' : DS) (Y : List ByteArray) (hp : 0 < l.length) (hr : refE ((N : Int) - 111) l = 0) (hf : (putOnce (l.map Prod.fst)).length ≤ 110) (hd : Dead S' Y) (hh : LeftQ N q h l (putOnce (l.map Prod.fst)) Y) (hok : S'.Ok) (hw : S'.writes ≤ S.writes + 300) : Ways N S s q k h l ⟨S', q, false, k, 14⟩

theorem commit_ways {k : Int} (hc : Clean S s) (hs : Held N q h s) (hq : q + 1 < 1000000) : Ways N S s q k h l (commitR S q k l) := by
  have hd := hs.dim
  have hnl : (S.now.length : Int) - 111 = (N : Int) - 111 := by rw [hc.now, hs.len]
  unfold commitR
  rw [hnl]
  by_cases h1 : refE ((N : Int) - 111) l ≠ 0
  · rw [if_pos h1]
    exact .no _ h1 (.inl rfl)
  rw [if_neg h1]
  have h1' : refE ((N : Int) - 111) l = 0 := Decidable.not_not.1 h1
  by_cases h2 : l.length = 0
  · rw [if_pos h2]
    exact .none (List.eq_nil_of_length_eq_zero h2)
  rw [if_neg h2]
  obtain ⟨T, hT⟩ : ∃ T, T = putOnce (l.map Prod.fst) := ⟨_, rfl⟩
  by_cases h3 : 110 < (putOnce (l.map Prod.fst)).length
  · rw [if_pos h3]
    exact .no 21 (by decide) (.inr ⟨h1', h3, rfl⟩)
  rw [if_neg h3]
  have hok : CommitOk N q l T := ⟨hT, by omega, by rw [hT]; omega, by omega, h1', by have := hs.seq; omega⟩
  have hfew := hok.few
  rw [← hT]
  obtain ⟨G, hG⟩ : ∃ G, G = groupsL q l T := ⟨_, rfl⟩
  rw [← hG]
  have hGw : sumL G ≤ 300 := by
    rw [hG]
    unfold groupsL sumL
    simp only [List.foldr_cons, List.foldr_nil, copiesL_length, homeL_length, List.length_cons, List.length_nil]
    omega
  have hpw := putS_writes G S
  have hpo := putS_ok G S hc.ok
  rcases put_cases G S s hc (fun g hg => by rw [hs.len]; rw [hG] at hg; exact hok.fits g hg) with ⟨e0, hcl⟩ | ⟨e14, i, g, Y, hi, hp, hdead⟩
  · rw [if_pos e0]
    refine .done _ _ (by omega) h1' (by omega) hcl ?_ hpo (by omega)
    rw [hG]
    exact held_next hs hok hq
  · rw [if_neg (by rw [e14]; decide), e14]
    refine .gone _ Y (by omega) h1' (by omega) hdead ?_ hpo (by omega)
    rw [hG] at hi hp
    rw [← hT]
    exact leftQ_cases hs hok hq hi hp

set_option maxRecDepth 100000 in
set_option maxHeartbeats 1000000 in
/-- A Wal that is not up any more. -/
theorem wcommit_down {k : Int} {m c : Nat} (A : Option Addr) (h : Blk w gw 66 (walC gd q false k)) : Calls Tryz.prog 12 #[.pointer (some ⟨gw, 0, none⟩), .slice A m c] w fun e w' => e = .returned (.int .i64 14) ∧ w = w' := by
  have c4 := h.cell 4
  simp [walC] at c4
  have HR : Hid (Calls Tryz.prog 34 #[.pointer (some ⟨gw, 0, none⟩), .slice A m c] w fun e w' => e = .returned (.int .i64 14) ∧ w = w') := Lib.hid (by
    go_enter Tryz.func34, Tryz.ntmps34
    go_wp2_with fail
    go_ret
    exact ⟨rfl, rfl⟩)
  clear c4
  go_enter Tryz.func12, Tryz.ntmps12
  go_wp2_with fail
  refine HR.out.mono ?_
  rintro e w1 ⟨rfl, rfl⟩
  go_wp2_with fail
  go_ret
  exact ⟨rfl, rfl⟩
end Go.Proofs.YtbaanoomilohhaaGreatDoor
