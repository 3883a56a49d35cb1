/-
  Package wal: the first call of its laws. No statement is proved here.
-/
import Derived.Test.YtiagofgcinlnhaaGreatDoorWalArrange
import Derived.Test.YtiagofgcinlnhaaGreatDoorDiskAlive
import Derived.Test.YtiagofgcinlnhaaGreatDoorWalSmall
import Derived.Test.YtiagofgcinlnhaaGreatDoorGrow
import Derived.Test.YtiagofgcinlnhaaGreatDoorHeadRead
namespace Go.Proofs.YtiagofgcinlnhaaGreatDoor
open Go.RowKit
structure CR where
  S : DS
  seq : Int
  up : Bool
  k : Int
  e : Int
def groupsL (seq : Int) (l : List Wr1) (T : List Int) : List (List Wr1) := [copiesL l 0 T, [(0, bs (HD.mk (seq + 1) true T).text)], homeL l T, [(0, bs (HD.mk (seq + 1) false []).text)]]
def commitR (S : DS) (seq k : Int) (l : List Wr1) : CR :=
  if refE ((S.now.length : Int) - 111) l ≠ 0 then ⟨S, seq, true, k, refE ((S.now.length : Int) - 111) l⟩
  else if l.length = 0 then ⟨S, seq, true, k, 0⟩
  else if 110 < (putOnce (l.map Prod.fst)).length then ⟨S, seq, true, k, 21⟩
  else if putE S (groupsL seq l (putOnce (l.map Prod.fst))) = 0 then ⟨putS S (groupsL seq l (putOnce (l.map Prod.fst))), seq + 1, true, k + 1, 0⟩
  else ⟨putS S (groupsL seq l (putOnce (l.map Prod.fst))), seq, false, k, putE S (groupsL seq l (putOnce (l.map Prod.fst)))⟩
def WTurns (O : List Nat) (gw gd : Nat) (R : CR) (w w' : World) : Prop :=
  ∃ O', DiskAt w' O' gd R.S ∧ (∀ b ∈ O', b ∈ O ∨ w.heap.size ≤ b) ∧ Keep (gw :: O) w w' ∧ Blk w' gw 101 (walC gd R.seq R.up R.k)
theorem refE_ok {m : Int} : ∀ {l : List Wr1}, refE m l = 0 → ∀ x ∈ l, 0 ≤ x.1 ∧ x.1 < m ∧ x.2.size = 256
  | [], _, x, hx => by cases hx
  | y :: r, h, x, hx => by
    unfold refE at h
    split at h
    · rename_i h1
      split at h
      · rename_i h2
        rcases List.mem_cons.1 hx with rfl | hx
        · exact ⟨h1.1, h1.2, h2⟩
        · exact refE_ok h x hx
      · cases h
    · cases h
theorem row_wrts {w : World} {base n c : Nat} {B : Option Addr} {l : List Wr1} {O : List Nat} (h : w.ownsRow base 90 2 (.slice B n c) n (flatI l)) (hO : ∀ b ∈ O, b < base) : Wrts w O B l := fun hp => by
  rcases h.2 with ⟨h1, h2⟩ | ⟨g, cap, cur, e, hb, hg, _⟩
  · have := h.1
    rw [flatI_len] at this
    omega
  · injection e with e _ _
    refine ⟨g, 0, e, (h.lt g (by rw [e]; rfl)).2, fun hm => by have := hO g hm; omega, fun j x hx => ?_⟩
    obtain ⟨q1, q2⟩ := flatI_get hx
    subst e
    have c1 := h.cells (g := g) rfl _ _ q1
    have c2 := h.cells (g := g) rfl _ _ q2
    rw [add_off] at c1 c2
    rw [show 0 + j * 2 = 0 + 2 * j by omega, show 0 + 2 * j + 1 = 0 + (2 * j + 1) by omega]
    exact ⟨c1, c2⟩
theorem blk_wrts {w : World} {b base : Nat} {X : ByteArray} {t : Int} {O : List Nat} (h : Blk w b 90 #[.int .i64 t, .string X]) (hO : ∀ b ∈ O, b < base) (hb : base ≤ b) : Wrts w O (some ⟨b, 0, none⟩) [(t, X)] := fun _ =>
  ⟨b, 0, rfl, h.lt, fun hm => by have := hO b hm; omega, fun j x hx => by
    match j, hx with
    | 0, hx =>
      injection hx with hx
      subst hx
      exact ⟨h.cell 0, h.cell 1⟩⟩
theorem valid_next {seq : Int} {l : List Int} (h0 : 0 ≤ seq) (h1 : seq < 1099511627776) (hl : 0 < l.length) (hr : ∀ x ∈ l, 0 ≤ x ∧ x < 2000) (hn : (putOnce l).length ≤ 110) : (HD.mk (seq + 1) true (putOnce l)).validB = true := by
  obtain ⟨p1, p2, _⟩ := putOnce_ok hr
  have := p2 hl
  unfold HD.validB
  simp only [if_true, p1, Bool.and_true, Bool.and_eq_true, decide_eq_true_eq]
  exact ⟨⟨by omega, by omega⟩, by omega, hn⟩
theorem valid_done {seq : Int} (h0 : 0 ≤ seq) (h1 : seq ≤ 1099511627776) : (HD.mk seq false []).validB = true := by
  unfold HD.validB
  simp
  exact ⟨h0, h1⟩
set_option maxRecDepth 100000 in
set_option maxHeartbeats 4000000 in
theorem wcommit_any {w : World} {gw gd m c : Nat} {seq k : Int} {O : List Nat} {S : DS} (A : Option Addr) (l : List Wr1) (h : Blk w gw 101 (walC gd seq true k)) (hd : DiskAt w O gd S) (hok : S.Ok) (hgw : gw ∉ O)
    (h1 : 111 ≤ S.now.length) (h2 : S.now.length ≤ 2000) (hq : 0 ≤ seq ∧ seq < 1099511627776) (hk : 0 ≤ k ∧ k < 1000000000000) (hm : l.length = m) (hl : Wrts w O A l) (hm2 : m ≤ 100000)
    (hlb : S.left ≤ 9223372036854775807) (hwb : S.writes < 900000000000) (hdb : S.dirty.length < 900000000000) :
    Calls Tryz.prog 54 #[.pointer (some ⟨gw, 0, none⟩), .slice A m c] w fun e w' => e = .returned (.int .i64 (commitR S seq k l).e) ∧ WTurns O gw gd (commitR S seq k l) w w' := by
  have hgl := h.lt
  have HOL : Hid (∀ b ∈ O, b < w.heap.size) := Lib.hid (fun b hb => hd.lt hb)
  have SAME : ∀ w', Below w.heap.size w w' → ∀ e, WTurns O gw gd ⟨S, seq, true, k, e⟩ w w' := fun w' hb e => ⟨O, hd.below hb, fun b hb => .inl hb, Keep.of_below hb, h.below hb h.lt⟩
  have HSAME := Lib.hid SAME
  obtain ⟨E, hE⟩ : ∃ E, E = refE ((S.now.length : Int) - 111) l := ⟨_, rfl⟩
  have HREF : Hid (Calls Tryz.prog 90 #[.pointer (some ⟨gw, 0, none⟩), .slice A m c] w fun e w' => e = .returned (.int .i64 E) ∧ Below w.heap.size w w') := Lib.hid (by rw [hE]; exact wrefuse_any A l h hd rfl h1 h2 hm hl hm2)
  have hm2' : (m : Int) ≤ 100000 := by omega
  by_cases he : E = 0
  · by_cases hm0 : m = 0
    · have R : commitR S seq k l = ⟨S, seq, true, k, 0⟩ := by unfold commitR; rw [if_neg (by rw [← hE]; exact fun h => h he), if_pos (by omega)]
      rw [R]
      subst he
      subst hm0
      clear R hE SAME h hd hok hgw h1 h2 hq hk hm hl hlb hwb hdb hm2
      go_enter Tryz.func54, Tryz.ntmps54
      go_wp2_with fail
      refine HREF.out.mono ?_
      rintro e w1 ⟨rfl, hb1⟩
      go_wp2_with fail
      go_ret
      exact ⟨rfl, HSAME.out _ hb1 _⟩
    · have hmp : 0 < m := by omega
      have HRNG : Hid (∀ x ∈ l, 0 ≤ x.1 ∧ x.1 < 2000) := Lib.hid (fun x hx => by
        have := refE_ok (hE.symm.trans he) x hx
        omega)
      obtain ⟨T, hT⟩ : ∃ T, T = putOnce (l.map Prod.fst) := ⟨_, rfl⟩
      have HARR : Hid (∀ wx, Below w.heap.size w wx → Calls Tryz.prog 91 #[.pointer (some ⟨gw, 0, none⟩), .slice A m c] wx fun e w' => ∃ A' c' tn B cb C cc, tn = T.length ∧ e = .returned (.tuple #[.agg #[.int .i64 (seq + 1), .bool true, .slice A' tn c'], .slice B tn cb, .slice C tn cc]) ∧
          w'.ownsRow wx.heap.size 3 1 (.slice A' tn c') tn (T.map (Value.int .i64)) ∧ w'.ownsRow wx.heap.size 90 2 (.slice B tn cb) tn (flatI (copiesL l 0 T)) ∧ w'.ownsRow wx.heap.size 90 2 (.slice C tn cc) tn (flatI (homeL l T)) ∧ Below wx.heap.size wx w') := Lib.hid (fun wx hx => by
        refine (warrange_any A l (h.below hx h.lt) ⟨hq.1, by omega⟩ hm (hl.below hx) hmp hm2 HRNG.out).mono ?_
        rintro e w' ⟨A', c', tn, B, cb, C, cc, T', rfl, e2, e3, r1, r2, r3, r4⟩
        rw [← hT] at e2 r1 r2 r3
        exact ⟨A', c', tn, B, cb, C, cc, e2, e3, r1, r2, r3, r4⟩)
      have HM := Lib.hid hm
      by_cases hbig : 110 < T.length
      · have R : commitR S seq k l = ⟨S, seq, true, k, 21⟩ := by unfold commitR; rw [if_neg (by rw [← hE]; exact fun h => h he), if_neg (by omega), if_pos (by rw [← hT]; exact hbig)]
        rw [R]
        subst he
        have HBIG := Lib.hid hbig
        have hm0' : ((m : Int) == 0) = false := by simp; omega
        clear R hE SAME h hd hok hgw h1 h2 hq hk hm hl hlb hwb hdb hm2 hbig hT
        go_enter Tryz.func54, Tryz.ntmps54
        go_wp2_with fail
        refine HREF.out.mono ?_
        rintro e w1 ⟨rfl, hb1⟩
        have HB1 := Lib.hid hb1
        clear hb1
        go_wp2_with fail
        refine (HARR.out _ HB1.out).mono ?_
        rintro e w2 ⟨A', c', tn, B, cb, C, cc, htn, rfl, -, -, -, hb2⟩
        have hbn : (110 : Int) < (tn : Int) := by have := HBIG.out; omega
        have HB2 := Lib.hid (HB1.out.trans (hb2.mono HB1.out.size))
        clear hb2 htn
        go_wp2_with fail
        go_ret
        exact ⟨rfl, HSAME.out _ (HB2.out.alloc HB2.out.size _) _⟩
      · have R : commitR S seq k l = if putE S (groupsL seq l T) = 0 then ⟨putS S (groupsL seq l T), seq + 1, true, k + 1, 0⟩ else ⟨putS S (groupsL seq l T), seq, false, k, putE S (groupsL seq l T)⟩ := by
          unfold commitR; rw [if_neg (by rw [← hE]; exact fun h => h he), if_neg (by omega), if_neg (by rw [← hT]; exact hbig), ← hT]
        rw [R]
        obtain ⟨G, hG⟩ : ∃ G, G = groupsL seq l T := ⟨_, rfl⟩
        rw [← hG]
        obtain ⟨E2, hE2⟩ : ∃ E2, E2 = putE S G := ⟨_, rfl⟩
        obtain ⟨S2, hS2⟩ : ∃ S2, S2 = putS S G := ⟨_, rfl⟩
        rw [← hE2, ← hS2]
        have HE2 := Lib.hid hE2
        have HS2E := Lib.hid hS2
        obtain ⟨RR, hRR⟩ : ∃ RR, RR = if E2 = 0 then CR.mk S2 (seq + 1) true (k + 1) 0 else CR.mk S2 seq false k E2 := ⟨_, rfl⟩
        rw [← hRR]
        have HRR := Lib.hid hRR
        clear hRR
        clear hE2 hS2
        have hv1 : (HD.mk (seq + 1) true T).validB = true := by rw [hT]; exact valid_next hq.1 hq.2 (by rw [List.length_map]; omega) (fun x hx => by obtain ⟨y, hy, rfl⟩ := List.mem_map.1 hx; exact HRNG.out y hy) (by rw [← hT]; omega)
        have hv2 : (HD.mk (seq + 1) false []).validB = true := valid_done (by omega) (by omega)
        obtain ⟨X1, hX1⟩ : ∃ X1, X1 = bs (HD.mk (seq + 1) true T).text := ⟨_, rfl⟩
        obtain ⟨X2, hX2⟩ : ∃ X2, X2 = bs (HD.mk (seq + 1) false []).text := ⟨_, rfl⟩
        have HGE : Hid (G = [copiesL l 0 T, [(0, X1)], homeL l T, [(0, X2)]]) := Lib.hid (by rw [hG, hX1, hX2]; rfl)
        have HSEC1 : Hid (∀ wx A' c' tn, tn = T.length → wx.ownsRow w.heap.size 3 1 (.slice A' tn c') tn (T.map (Value.int .i64)) → Calls Tryz.prog 92 #[.agg #[.int .i64 (seq + 1), .bool true, .slice A' tn c']] wx fun e w' => ∃ b, e = .returned (.tuple #[.slice (some ⟨b, 0, none⟩) 1 1, .int .i64 0]) ∧ Blk w' b 90 #[.int .i64 0, .string X1] ∧ wx.heap.size ≤ b ∧ Below wx.heap.size wx w') := Lib.hid (fun wx A' c' tn htn hr => by
          subst htn
          refine (wsector_any (HD.mk (seq + 1) true T) A' c' wx ⟨row_ints hr, by show T.length ≤ _; omega⟩).mono ?_
          rintro e w' ⟨b, X, k', rfl, hs, r1, r2, r3⟩
          unfold secIs at hs
          rw [if_pos hv1] at hs
          obtain ⟨rfl, rfl⟩ := hs
          exact ⟨b, rfl, by rw [hX1]; exact r1, r2, r3⟩)
        have HSEC2 : Hid (∀ wx, Calls Tryz.prog 92 #[.agg #[.int .i64 (seq + 1), .bool false, .slice none 0 0]] wx fun e w' => ∃ b, e = .returned (.tuple #[.slice (some ⟨b, 0, none⟩) 1 1, .int .i64 0]) ∧ Blk w' b 90 #[.int .i64 0, .string X2] ∧ wx.heap.size ≤ b ∧ Below wx.heap.size wx w') := Lib.hid (fun wx => by
          refine (wsector_any (HD.mk (seq + 1) false []) none 0 wx ⟨Ints.nil _ _ _, by show 0 ≤ _; omega⟩).mono ?_
          rintro e w' ⟨b, X, k', rfl, hs, r1, r2, r3⟩
          unfold secIs at hs
          rw [if_pos hv2] at hs
          obtain ⟨rfl, rfl⟩ := hs
          exact ⟨b, rfl, by rw [hX2]; exact r1, r2, r3⟩)
        have HDONE : Hid (∀ wx A' c' tn, tn = T.length → Calls Tryz.prog 93 #[.agg #[.int .i64 (seq + 1), .bool true, .slice A' tn c']] wx fun e w' => e = .returned (.agg #[.int .i64 (seq + 1), .bool false, .slice none 0 0]) ∧ Below wx.heap.size wx w') := Lib.hid (fun wx A' c' tn htn => by
          subst htn
          exact hdone_any (HD.mk (seq + 1) true T) A' c' wx)
        have HLEN : Hid (T.length ≤ 110) := Lib.hid (by omega)
        have HW := Lib.hid h
        have HD := Lib.hid hd
        have HGW := Lib.hid hgw
        have HOK := Lib.hid hok
        have HBND := Lib.hid (And.intro hlb (And.intro hwb hdb))
        have HK := Lib.hid hk
        subst he
        have hm0' : ((m : Int) == 0) = false := by simp; omega
        clear R hE SAME h hd hok hgw h1 h2 hq hk hm hl hlb hwb hdb hm2 hbig hT hv1 hv2 hX1 hX2 hG
        go_enter Tryz.func54, Tryz.ntmps54
        go_wp2_with fail
        refine HREF.out.mono ?_
        rintro e w1 ⟨rfl, hb1⟩
        have HB1 := Lib.hid hb1
        clear hb1
        go_wp2_with fail
        refine (HARR.out _ HB1.out).mono ?_
        rintro e w2 ⟨A', c', tn, B, cb, C, cc, htn, rfl, hr1, hr2, hr3, hb2⟩
        have hbn : (tn : Int) ≤ 110 := by have := HLEN.out; omega
        have HTN := Lib.hid htn
        have HR1 := Lib.hid (row_lower hr1 HB1.out.size)
        have HR2 := Lib.hid (row_lower hr2 HB1.out.size)
        have HR3 := Lib.hid (row_lower hr3 HB1.out.size)
        have HB2 := Lib.hid (HB1.out.trans (hb2.mono HB1.out.size))
        clear hb2 htn hr1 hr2 hr3
        go_upto_region 5 with fail
        obtain ⟨w3, hw3⟩ : ∃ w3, w3 = w2.alloc (.cells #[.int .i64 (seq + 1), .bool true, .slice A' tn c'] 99) := ⟨_, rfl⟩
        obtain ⟨g6, hg6⟩ : ∃ g6, g6 = w2.heap.size := ⟨_, rfl⟩
        rw [← hw3, ← hg6]
        have HB23 : Hid (Below w2.heap.size w2 w3) := Lib.hid (by rw [hw3]; exact (Below.refl _ _).alloc (Nat.le_refl _) _)
        have HH3 : Hid (Blk w3 g6 99 #[.int .i64 (seq + 1), .bool true, .slice A' tn c']) := Lib.hid (by rw [hw3, hg6]; exact Blk.new w2 _ _)
        have HG6 : Hid (w.heap.size ≤ g6) := Lib.hid (by rw [hg6]; exact HB2.out.size)
        have HB3 : Hid (Below w.heap.size w w3) := Lib.hid (HB2.out.trans (HB23.out.mono HB2.out.size))
        have HCELLS : Hid (∀ wx, Below w3.heap.size w3 wx → wx.cell? ⟨g6, 0, none⟩ = some (.int .i64 (seq + 1)) ∧ wx.cell? ⟨g6, 1, none⟩ = some (.bool true) ∧ wx.cell? ⟨g6, 2, none⟩ = some (.slice A' tn c')) := Lib.hid (fun wx hx => by
          have hh := HH3.out.below hx HH3.out.lt
          exact ⟨hh.cell 0, hh.cell 1, hh.cell 2⟩)
        have HR1' := Lib.hid (row_below HR1.out HB23.out)
        have HR2' := Lib.hid (row_below HR2.out HB23.out)
        have HR3' := Lib.hid (row_below HR3.out HB23.out)
        obtain ⟨c0, c1, c2⟩ := HCELLS.out w3 (Below.refl _ _)
        clear hw3 hg6 HR1 HR2 HR3 HB23
        go_wp2_with fail
        refine (HSEC1.out _ A' c' tn HTN.out HR1'.out).mono ?_
        rintro e w4 ⟨b1, rfl, hs1, hsb1, hb4⟩
        have HS1 := Lib.hid hs1
        have HSB1 := Lib.hid hsb1
        have HB4 := Lib.hid hb4
        obtain ⟨c0, c1, c2⟩ := HCELLS.out w4 hb4
        clear hs1 hsb1 hb4
        go_wp2_with fail
        refine (HDONE.out _ A' c' tn HTN.out).mono ?_
        rintro e w5 ⟨rfl, hb5⟩
        have HB5 := Lib.hid (HB4.out.trans (hb5.mono HB4.out.size))
        have HS1' := Lib.hid (HS1.out.below hb5 HS1.out.lt)
        clear hb5 c0 c1 c2
        go_wp2_with fail
        refine (HSEC2.out _).mono ?_
        rintro e w6 ⟨b2, rfl, hs2, hsb2, hb6⟩
        have HS2 := Lib.hid hs2
        have HSB2 : Hid (w.heap.size ≤ b2) := Lib.hid (Nat.le_trans HB3.out.size (Nat.le_trans HB5.out.size hsb2))
        have HB6 := Lib.hid (HB5.out.trans (hb6.mono HB5.out.size))
        have HS1'' := Lib.hid (HS1'.out.below hb6 HS1'.out.lt)
        clear hs2 hsb2 hb6 HS1 HS1' HB4 HB5
        obtain ⟨wp, hwp⟩ : ∃ wp, wp = w6.alloc (.cells #[.slice B tn cb, .slice (some ⟨b1, 0, none⟩) 1 1, .slice C tn cc, .slice (some ⟨b2, 0, none⟩) 1 1] 73) := ⟨_, rfl⟩
        obtain ⟨bg, hbg⟩ : ∃ bg, bg = w6.heap.size := ⟨_, rfl⟩
        have HB6P : Hid (Below w6.heap.size w6 wp) := Lib.hid (by rw [hwp]; exact (Below.refl _ _).alloc (Nat.le_refl _) _)
        have HB3P : Hid (Below w3.heap.size w3 wp) := Lib.hid (HB6.out.trans (HB6P.out.mono HB6.out.size))
        have HBWP : Hid (Below w.heap.size w wp) := Lib.hid (HB3.out.trans (HB3P.out.mono HB3.out.size))
        have HGRP : Hid (Blk wp bg 73 #[.slice B tn cb, .slice (some ⟨b1, 0, none⟩) 1 1, .slice C tn cc, .slice (some ⟨b2, 0, none⟩) 1 1]) := Lib.hid (by rw [hwp, hbg]; exact Blk.new w6 _ _)
        have HBGW : Hid (w.heap.size ≤ bg) := Lib.hid (by rw [hbg]; exact Nat.le_trans HB3.out.size HB6.out.size)
        have HSB1' : Hid (w.heap.size ≤ b1) := Lib.hid (Nat.le_trans HB3.out.size HSB1.out)
        have HPUT : Hid (Calls Tryz.prog 94 #[.pointer (some ⟨gw, 0, none⟩), .slice (some ⟨bg, 0, none⟩) 4 4] wp fun e w' => e = .returned (.int .i64 E2) ∧ Turns O gd S2 wp w') := Lib.hid (by
          obtain ⟨n1, n2, n3⟩ := HBND.out
          have hc1 : (copiesL l 0 T).length = tn := by rw [copiesL_length, HTN.out]
          have hc2 : (homeL l T).length = tn := by rw [homeL_length, HTN.out]
          have htn := HLEN.out
          rw [← HTN.out] at htn
          have := wput_any (bg := bg) (m := 4) (c := 4) [⟨B, cb, copiesL l 0 T⟩, ⟨some ⟨b1, 0, none⟩, 1, [(0, X1)]⟩, ⟨C, cc, homeL l T⟩, ⟨some ⟨b2, 0, none⟩, 1, [(0, X2)]⟩] (HW.out.below HBWP.out HW.out.lt) (HD.out.below HBWP.out) HOK.out HGW.out rfl (fun j x hx => by
            match j, hx with
            | 0, hx =>
              injection hx with hx
              subst hx
              refine ⟨?_, row_wrts (row_below HR2'.out HB3P.out) HOL.out, by show (copiesL l 0 T).length ≤ _; omega⟩
              unfold WI.val
              simp only
              rw [hc1]
              exact HGRP.out.cell 0
            | 1, hx =>
              injection hx with hx
              subst hx
              exact ⟨HGRP.out.cell 1, blk_wrts (HS1''.out.below HB6P.out HS1''.out.lt) HOL.out HSB1'.out, by show 1 ≤ _; omega⟩
            | 2, hx =>
              injection hx with hx
              subst hx
              refine ⟨?_, row_wrts (row_below HR3'.out HB3P.out) HOL.out, by show (homeL l T).length ≤ _; omega⟩
              unfold WI.val
              simp only
              rw [hc2]
              exact HGRP.out.cell 2
            | 3, hx =>
              injection hx with hx
              subst hx
              exact ⟨HGRP.out.cell 3, blk_wrts (HS2.out.below HB6P.out HS2.out.lt) HOL.out HSB2.out, by show 1 ≤ _; omega⟩) HGRP.out.lt (fun hm => by have := HOL.out _ hm; have := HBGW.out; omega) (by omega) n1 n2 n3
          simp only [List.map_cons, List.map_nil] at this
          rw [← HGE.out, ← HE2.out, ← HS2E.out] at this
          exact this)
        have HCELLP : Hid (∀ w', Keep O wp w' → Blk w' gw 101 (walC gd seq true k) ∧ Blk w' g6 99 #[.int .i64 (seq + 1), .bool true, .slice A' tn c']) := Lib.hid (fun w' hk => by
          have q1 := HW.out.below HBWP.out HW.out.lt
          have q2 := HH3.out.below HB3P.out HH3.out.lt
          exact ⟨(hk.block gw q1.lt HGW.out).trans q1, (hk.block g6 q2.lt (fun hm => by have := HOL.out _ hm; have := HG6.out; omega)).trans q2⟩)
        have HFIN : Hid (∀ w' wz (R : CR), R.S = S2 → Turns O gd S2 wp w' → Below w'.heap.size w' wz → ∀ we, (∀ b, b ≠ gw → we.heap[b]? = wz.heap[b]?) → Keep [gw] wz we → Blk we gw 101 (walC gd R.seq R.up R.k) → WTurns O gw gd R w we) := Lib.hid (fun w' wz R hR hT hb we hse hkp hbk => by
          obtain ⟨O', d1, d2, d3⟩ := hT
          have d1' := d1.below hb
          have hO' : ∀ b ∈ O', b ∈ O ∨ w.heap.size ≤ b := fun b hb' => by
            rcases d2 b hb' with h | h
            · exact .inl h
            · exact .inr (Nat.le_trans HBWP.out.size h)
          refine ⟨O', ?_, hO', ?_, hbk⟩
          · rw [hR]
            refine d1'.kept (fun b hb' => hse b (fun e => ?_))
            subst e
            rcases hO' b hb' with h | h
            · exact HGW.out h
            · have := HW.out.lt; omega
          · have k1 : Keep O w w' := (Keep.of_below HBWP.out).trans d3 (fun b hb => .inl hb)
            exact ((k1.below_in hb).mono (O' := gw :: O) (fun b hb => .inl (List.mem_cons_of_mem _ hb))).trans hkp (fun b hb => .inl (by rw [List.mem_singleton.1 hb]; exact List.mem_cons_self)))
        clear HS1'' HS2 HSB1 HSB1' HSB2 HR1' HR2' HR3' HGRP HGE HB6 HB6P HBND HOK
        go_upto_region 13 with fail
        go_wp2_with fail
        rw [← hwp, ← hbg]
        clear hwp hbg
        refine HPUT.out.mono ?_
        rintro e w7 ⟨rfl, hT7⟩
        have HT7 := Lib.hid hT7
        obtain ⟨hbw, hbh⟩ : Blk w7 gw 101 (walC gd seq true k) ∧ Blk w7 g6 99 #[.int .i64 (seq + 1), .bool true, .slice A' tn c'] := by
          obtain ⟨O', d1, d2, d3⟩ := hT7
          exact HCELLP.out w7 d3
        have HBW7 := Lib.hid hbw
        clear hT7 HPUT
        by_cases hE : E2 = 0
        · have HRE : Hid (RR = CR.mk S2 (seq + 1) true (k + 1) 0) := Lib.hid (HRR.out.trans (if_pos hE))
          subst hE
          have h0 := hbh.cell 0
          have h1 := hbh.cell 1
          have h2 := hbh.cell 2
          simp at h0 h1 h2
          clear hbw hbh
          go_wp2_with fail
          refine (HDONE.out _ A' c' tn HTN.out).mono ?_
          rintro e w8 ⟨rfl, hb8⟩
          have HB8 := Lib.hid hb8
          have hbw8 := HBW7.out.below hb8 HBW7.out.lt
          have HBW8 := Lib.hid hbw8
          have z1 := hbw8.cell 1
          have z2 := hbw8.cell 2
          have z3 := hbw8.cell 3
          have y1 := hbw8.frozen 1
          have y2 := hbw8.frozen 2
          have y3 := hbw8.frozen 3
          simp [walC] at z1 z2 z3
          clear hb8 hbw8 h0 h1 h2
          go_upto_region 18 with fail
          obtain ⟨w9, hw9⟩ : ∃ w9, w9 = ((w8.setCell ⟨gw, 1, none⟩ (.int .i64 (seq + 1))).setCell ⟨gw, 2, none⟩ (.bool false)).setCell ⟨gw, 3, none⟩ (.slice none 0 0) := ⟨_, rfl⟩
          rw [← hw9]
          have hbw9 := ((HBW8.out.put 1 (.int .i64 (seq + 1))).put 2 (.bool false)).put 3 (.slice none 0 0)
          rw [← hw9] at hbw9
          have HBW9 : Hid (Blk w9 gw 101 (walC gd (seq + 1) true k)) := Lib.hid hbw9
          have HSE9 : Hid (∀ b, b ≠ gw → w9.heap[b]? = w8.heap[b]?) := Lib.hid (fun b hb => by rw [hw9]; exact (Below.heap_setCell _ _ _ _ (fun e => hb e)).trans ((Below.heap_setCell _ _ _ _ (fun e => hb e)).trans (Below.heap_setCell _ _ _ _ (fun e => hb e))))
          have HKP9 : Hid (Keep [gw] w8 w9) := Lib.hid (by rw [hw9]; exact ((((Keep.refl _ _).put (.inl (List.mem_singleton.2 rfl)) _ _).put (.inl (List.mem_singleton.2 rfl)) _ _).put (.inl (List.mem_singleton.2 rfl)) _ _))
          have x5 := HBW9.out.cell 5
          have f5 := HBW9.out.frozen 5
          simp [walC] at x5
          obtain ⟨k0, k1⟩ := HK.out
          clear hw9 hbw9 z1 z2 z3 y1 y2 y3
          go_wp2_with fail
          go_ret
          rw [HRE.out]
          refine ⟨rfl, HFIN.out w7 w8 _ rfl HT7.out HB8.out _ (fun b hb => (Below.heap_setCell _ _ _ _ (fun e => hb e)).trans (HSE9.out b hb)) (HKP9.out.put (.inl (List.mem_singleton.2 rfl)) _ _) ?_⟩
          exact HBW9.out.put 5 (.int .i64 (k + 1))
        · have HRE : Hid (RR = CR.mk S2 seq false k E2) := Lib.hid (HRR.out.trans (if_neg hE))
          have hb : (E2 != 0) = true := bne_iff_ne.2 hE
          have z4 := hbw.cell 4
          have y4 := hbw.frozen 4
          simp [walC] at z4
          clear hbw hbh
          go_wp2_with fail
          go_ret
          rw [HRE.out]
          refine ⟨rfl, HFIN.out w7 w7 _ rfl HT7.out (Below.refl _ _) _ (fun b hb => Below.heap_setCell _ _ _ _ (fun e => hb e)) ((Keep.refl _ _).put (.inl (List.mem_singleton.2 rfl)) _ _) ?_⟩
          exact HBW7.out.put 4 (.bool false)
  · have R : commitR S seq k l = ⟨S, seq, true, k, E⟩ := by unfold commitR; rw [if_pos (by rw [← hE]; exact he), ← hE]
    rw [R]
    have hb : (E != 0) = true := bne_iff_ne.2 he
    clear R hE SAME h hd hok hgw h1 h2 hq hk hm hl hlb hwb hdb hm2
    go_enter Tryz.func54, Tryz.ntmps54
    go_wp2_with fail
    refine HREF.out.mono ?_
    rintro e w1 ⟨rfl, hb1⟩
    go_wp2_with fail
    go_ret
    exact ⟨rfl, HSAME.out _ hb1 _⟩
def setI (s : List ByteArray) (g : List Wr1) : List ByteArray := g.foldl (fun s x => s.set x.1.toNat x.2) s
theorem setI_length (g : List Wr1) : ∀ s, (setI s g).length = s.length := by
  induction g with
  | nil => intro s; rfl
  | cons x r ih => intro s; show (setI (s.set x.1.toNat x.2) r).length = _; rw [ih]; simp
theorem setI_cons (s : List ByteArray) (x : Wr1) (r : List Wr1) : setI s (x :: r) = setI (s.set x.1.toNat x.2) r := rfl
theorem setI_far (g : List Wr1) {i : Nat} : ∀ s, (∀ x ∈ g, x.1.toNat ≠ i) → (setI s g)[i]? = s[i]? := by
  induction g with
  | nil => intro s _; rfl
  | cons x r ih =>
    intro s h
    rw [setI_cons, ih _ (fun y hy => h y (by simp [hy])), List.getElem?_set_ne (h x (by simp))]
theorem setI_small (g : List Wr1) (B : Nat) : ∀ s, (∀ x ∈ g, x.2.size ≤ B) → (∀ x ∈ s, x.size ≤ B) → ∀ x ∈ setI s g, x.size ≤ B := by
  induction g with
  | nil => intro s _ h; exact h
  | cons x r ih =>
    intro s h1 h2
    rw [setI_cons]
    refine ih _ (fun y hy => h1 y (by simp [hy])) (fun y hy => ?_)
    rcases List.mem_or_eq_of_mem_set hy with h | h
    · exact h2 y h
    · rw [h]; exact h1 x (by simp)
def warm (s0 s : List ByteArray) (d : List (Nat × ByteArray)) (n : Nat) : DS := ⟨s, s0, d, true, n, false, 0, []⟩
def calm (s : List ByteArray) (n : Nat) : DS := warm s s [] n
theorem calm_ok (s : List ByteArray) (n : Nat) : (calm s n).Ok := ⟨rfl, (by intro w hw; cases hw)⟩
def Fit (N : Nat) (g : List Wr1) : Prop := ∀ x ∈ g, 0 ≤ x.1 ∧ x.1 < (N : Int) ∧ x.2.size = 256
theorem warm_writeL (s0 : List ByteArray) (g : List Wr1) : ∀ s d n, Fit s.length g → (warm s0 s d n).errL g = 0 ∧ ∃ d', (warm s0 s d n).writeL g = warm s0 (setI s g) d' (n + g.length) := by
  induction g with
  | nil => intro s d n _; exact ⟨rfl, d, rfl⟩
  | cons x r ih =>
    intro s d n h
    obtain ⟨h1, h2, h3⟩ := h x (by simp)
    have e1 : (warm s0 s d n).err1 x.1 x.2 = 0 := by
      unfold DS.err1
      rw [if_pos ⟨h1, by exact h2⟩, if_pos h3]
      rfl
    have e2 : (warm s0 s d n).write1 x.1 x.2 = warm s0 (s.set x.1.toNat x.2) (d ++ [(x.1.toNat, x.2)]) (n + 1) := by
      unfold DS.write1
      rw [if_pos ⟨h1, h2, h3⟩]
      rfl
    obtain ⟨i1, d', i2⟩ := ih (s.set x.1.toNat x.2) (d ++ [(x.1.toNat, x.2)]) (n + 1) (fun y hy => by rw [List.length_set]; exact h y (by simp [hy]))
    constructor
    · rw [DS.errL, if_pos e1, e2]
      exact i1
    · refine ⟨d', ?_⟩
      rw [DS.writeL, if_pos e1, e2, i2, setI_cons, List.length_cons, show n + 1 + r.length = n + (r.length + 1) by omega]
theorem calm_group (s : List ByteArray) (n : Nat) (g : List Wr1) (h : Fit s.length g) : (calm s n).errW g = 0 ∧ ((calm s n).write g).errF = 0 ∧ ((calm s n).write g).flush = calm (setI s g) (n + g.length) := by
  obtain ⟨h1, d, h2⟩ := warm_writeL s g s [] n h
  have w1 : (calm s n).errW g = 0 := by
    unfold DS.errW
    rw [if_pos (show (calm s n).on = true from rfl)]
    exact h1
  have w2 : (calm s n).write g = warm s (setI s g) d (n + g.length) := by
    unfold DS.write
    rw [if_pos (show (calm s n).on = true from rfl)]
    exact h2
  rw [w2]
  exact ⟨w1, rfl, rfl⟩
theorem calm_put (G : List (List Wr1)) : ∀ s n, (∀ g ∈ G, Fit s.length g) → putE (calm s n) G = 0 ∧ putS (calm s n) G = calm (G.foldl setI s) (n + sumL G) := by
  induction G with
  | nil => intro s n _; exact ⟨rfl, rfl⟩
  | cons g r ih =>
    intro s n h
    obtain ⟨h1, h2, h3⟩ := calm_group s n g (h g (by simp))
    obtain ⟨i1, i2⟩ := ih (setI s g) (n + g.length) (fun g' hg' => by rw [setI_length]; exact h g' (by simp [hg']))
    constructor
    · rw [putE, if_pos h1, if_pos h2, h3]
      exact i1
    · rw [putS, if_pos h1, if_pos h2, h3, i2]
      have e : sumL (g :: r) = g.length + sumL r := rfl
      rw [e, show n + g.length + sumL r = n + (g.length + sumL r) by omega]
      rfl
theorem setI_home (l : List Wr1) (ts : List Int) {t : Int} : ∀ s : List ByteArray, t ∈ ts → 0 ≤ t → (111 + t).toNat < s.length → (∀ u ∈ ts, 0 ≤ u) → (setI s (homeL l ts))[(111 + t).toNat]? = some (lastB l t) := by
  induction ts with
  | nil => intro s h; cases h
  | cons u r ih =>
    intro s h h0 h1 h2
    have e : homeL l (u :: r) = (111 + u, lastB l u) :: homeL l r := rfl
    rw [e, setI_cons]
    by_cases hr : t ∈ r
    · exact ih _ hr h0 (by simpa using h1) (fun v hv => h2 v (by simp [hv]))
    · have htu : t = u := by
        rcases List.mem_cons.1 h with h | h
        · exact h
        · exact absurd h hr
      subst htu
      rw [setI_far (homeL l r) _ (fun x hx => ?_), List.getElem?_set_self h1]
      unfold homeL at hx
      obtain ⟨v, hv, rfl⟩ := List.mem_map.1 hx
      have := h2 v (by simp [hv])
      simp only
      intro e
      have : v = t := by omega
      exact hr (this ▸ hv)
theorem copies_at (l : List Wr1) (ts : List Int) : ∀ k, ∀ x ∈ copiesL l k ts, ∃ (j : Nat) (t : Int), x = (1 + (j : Int), lastB l t) ∧ k ≤ j ∧ j < k + ts.length ∧ t ∈ ts := by
  induction ts with
  | nil => intro k x hx; cases hx
  | cons t r ih =>
    intro k x hx
    rcases List.mem_cons.1 hx with rfl | hx
    · exact ⟨k, t, rfl, Nat.le_refl _, by simp, by simp⟩
    · obtain ⟨j, u, e, h1, h2, h3⟩ := ih (k + 1) x hx
      exact ⟨j, u, e, by omega, by simp only [List.length_cons]; omega, by simp [h3]⟩
theorem home_at (l : List Wr1) (ts : List Int) {x : Wr1} (h : x ∈ homeL l ts) : ∃ t ∈ ts, x = (111 + t, lastB l t) := by
  unfold homeL at h
  obtain ⟨t, ht, rfl⟩ := List.mem_map.1 h
  exact ⟨t, ht, rfl⟩
theorem lastB_size {l : List Wr1} {t : Int} (h : t ∈ l.map Prod.fst) (hs : ∀ x ∈ l, x.2.size = 256) : (lastB l t).size = 256 := by
  obtain ⟨i, x, _, _, hx, _, e⟩ := lastM_all l h
  rw [← e]
  exact hs x (List.mem_of_getElem? hx)
def doneB (seq : Int) : ByteArray := bs (HD.mk seq false []).text
def fullB (seq : Int) (T : List Int) : ByteArray := bs (HD.mk seq true T).text
def doneS (s : List ByteArray) (seq : Int) (l : List Wr1) (T : List Int) : List ByteArray := (groupsL seq l T).foldl setI s
theorem doneB_size {q : Int} (h0 : 0 ≤ q) (h1 : q ≤ 1099511627776) : (doneB q).size = 256 := by
  unfold doneB; rw [bs_size, (HD.valid_of (valid_done h0 h1)).text_len]
structure CommitOk (N : Nat) (seq : Int) (l : List Wr1) (T : List Int) : Prop where
  eq : T = putOnce (l.map Prod.fst)
  dim : 111 ≤ N ∧ N ≤ 2000
  few : T.length ≤ 110
  pos : 0 < l.length
  ok : refE ((N : Int) - 111) l = 0
  seqb : 0 ≤ seq ∧ seq < 1099511627776
namespace CommitOk
variable {N : Nat} {seq : Int} {l : List Wr1} {T : List Int}
theorem mem (h : CommitOk N seq l T) (t : Int) : t ∈ T ↔ t ∈ l.map Prod.fst := by rw [h.eq]; exact (putOnce_spec _).2 t
theorem range (h : CommitOk N seq l T) : ∀ t ∈ T, 0 ≤ t ∧ 111 + t < (N : Int) := fun t ht => by
  obtain ⟨x, hx, rfl⟩ := List.mem_map.1 ((h.mem t).1 ht)
  have := refE_ok h.ok x hx
  omega
theorem size (h : CommitOk N seq l T) : ∀ t ∈ T, (lastB l t).size = 256 := fun t ht => lastB_size ((h.mem t).1 ht) (fun x hx => (refE_ok h.ok x hx).2.2)
theorem valid (h : CommitOk N seq l T) : (HD.mk (seq + 1) true T).validB = true := by
  have hN := h.dim
  have := valid_next (l := l.map Prod.fst) h.seqb.1 h.seqb.2 (by rw [List.length_map]; exact h.pos) (fun x hx => by
    obtain ⟨y, hy, rfl⟩ := List.mem_map.1 hx
    have := refE_ok h.ok y hy
    omega) (by rw [← h.eq]; exact h.few)
  rw [← h.eq] at this
  exact this
theorem fits (h : CommitOk N seq l T) : ∀ g ∈ groupsL seq l T, Fit N g := by
  intro g hg x hx
  have hN := h.dim
  unfold groupsL at hg
  simp only [List.mem_cons, List.not_mem_nil, or_false] at hg
  rcases hg with rfl | rfl | rfl | rfl
  · obtain ⟨j, t, rfl, h1, h2, h3⟩ := copies_at l T 0 x hx
    have := h.few
    exact ⟨by simp only; omega, by simp only; omega, h.size t h3⟩
  · rw [List.mem_singleton.1 hx]
    exact ⟨by simp, by simp only; omega, by show (bs _).size = 256; rw [bs_size, (HD.valid_of h.valid).text_len]⟩
  · obtain ⟨t, ht, rfl⟩ := home_at l T hx
    have := h.range t ht
    exact ⟨by simp only; omega, by simp only; omega, h.size t ht⟩
  · rw [List.mem_singleton.1 hx]
    exact ⟨by simp, by simp only; omega, by show (bs _).size = 256; rw [bs_size, (HD.valid_of (valid_done (by have := h.seqb; omega) (by have := h.seqb; omega))).text_len]⟩
theorem done_len (s : List ByteArray) (seq : Int) (l : List Wr1) (T : List Int) : (doneS s seq l T).length = s.length := by
  unfold doneS groupsL
  simp only [List.foldl_cons, List.foldl_nil, setI_length]
theorem done_head (h : CommitOk N seq l T) (s : List ByteArray) (hs : s.length = N) : (doneS s seq l T)[0]? = some (doneB (seq + 1)) := by
  have hN := h.dim
  unfold doneS groupsL
  simp only [List.foldl_cons, List.foldl_nil]
  rw [setI_cons]
  show (setI _ [])[0]? = _
  show ((setI _ _).set 0 _)[0]? = _
  rw [List.getElem?_set_self (by simp only [setI_length]; omega)]
  rfl
theorem done_at (h : CommitOk N seq l T) (s : List ByteArray) (hs : s.length = N) {t : Int} (ht : 0 ≤ t) (htN : 111 + t < (N : Int)) : (doneS s seq l T)[(111 + t).toNat]? = if t ∈ T then some (lastB l t) else s[(111 + t).toNat]? := by
  have hN := h.dim
  unfold doneS groupsL
  simp only [List.foldl_cons, List.foldl_nil]
  rw [setI_far [(0, _)] _ (fun x hx => by rw [List.mem_singleton.1 hx]; simp only; omega)]
  by_cases hm : t ∈ T
  · rw [if_pos hm, setI_home l T _ hm ht (by simp only [setI_length]; omega) (fun u hu => (h.range u hu).1)]
  · rw [if_neg hm, setI_far (homeL l T) _ (fun x hx => ?_), setI_far [(0, _)] _ (fun x hx => by rw [List.mem_singleton.1 hx]; simp only; omega), setI_far (copiesL l 0 T) _ (fun x hx => ?_)]
    · obtain ⟨j, u, rfl, h1, h2, h3⟩ := copies_at l T 0 x hx
      have := h.few
      simp only
      omega
    · obtain ⟨u, hu, rfl⟩ := home_at l T hx
      have := h.range u hu
      simp only
      intro e
      have : u = t := by omega
      exact hm (this ▸ hu)
theorem run (h : CommitOk N seq l T) (s : List ByteArray) (hs : s.length = N) (n : Nat) (k : Int) :
    commitR (calm s n) seq k l = ⟨calm (doneS s seq l T) (n + (2 * T.length + 2)), seq + 1, true, k + 1, 0⟩ := by
  obtain ⟨p1, p2⟩ := calm_put (groupsL seq l T) s n (fun g hg => by rw [hs]; exact h.fits g hg)
  have hl : (calm s n).now.length = N := hs
  unfold commitR
  rw [hl, if_neg (fun hh => hh h.ok), if_neg (by have := h.pos; omega), ← h.eq, if_neg (by have := h.few; omega), if_pos p1, p2]
  have e : sumL (groupsL seq l T) = 2 * T.length + 2 := by
    unfold groupsL sumL
    simp only [List.foldr_cons, List.foldr_nil, copiesL_length, homeL_length, List.length_cons, List.length_nil]
    omega
  rw [e]
  rfl
end CommitOk
section
variable {w : World} {gd : Nat} {O : List Nat} {S : DS}
set_option maxRecDepth 100000 in
set_option maxHeartbeats 2000000 in
theorem wopen_plain (hd : DiskAt w O gd S) (hz : ∀ x ∈ S.now, x.size ≤ 100000) (hon : S.on = true) (h1 : 0 < S.now.length) {b : ByteArray} (hb : S.read 0 = b) {q : Int}
    (hRD : ∀ W, Calls Tryz.prog 101 #[.string b] W fun e w' => ∃ A c, e = .returned (.tuple #[.agg #[.int .i64 q, .bool false, .slice A 0 c], .int .i64 0]) ∧ Below W.heap.size W w') :
    Calls Tryz.prog 57 #[.pointer (some ⟨gd, 0, none⟩)] w fun e w' => ∃ gw, e = .returned (.tuple #[.pointer (some ⟨gw, 0, none⟩), .int .i64 0]) ∧ Blk w' gw 101 (walC gd q true 0) ∧ w.heap.size ≤ gw ∧ Below w.heap.size w w' := by
  have HR : Hid (Calls Tryz.prog 100 #[.pointer (some ⟨gd, 0, none⟩), .int .i64 0] w fun e w' => e = .returned (.tuple #[.string b, .int .i64 0]) ∧ Below w.heap.size w w') := Lib.hid (by
    refine (dread_any 0 hd hz).mono ?_
    rintro e w' ⟨rfl, hb2⟩
    refine ⟨?_, hb2⟩
    rw [hb]
    unfold DS.errR
    rw [if_pos hon, if_pos ⟨by omega, by omega⟩])
  have HRD := Lib.hid hRD
  have HDN : Hid (∀ W A c, Calls Tryz.prog 93 #[.agg #[.int .i64 q, .bool false, .slice A 0 c]] W fun e w' => e = .returned (.agg #[.int .i64 q, .bool false, .slice none 0 0]) ∧ Below W.heap.size W w') := Lib.hid (fun W A c => hdone_any (HD.mk q false []) A c W)
  clear hd hz hon h1 hb hRD
  go_enter Tryz.func57, Tryz.ntmps57
  go_wp2_with fail
  refine HR.out.mono ?_
  rintro e w1 ⟨rfl, hb1⟩
  have HB1 := Lib.hid hb1
  clear hb1
  go_wp2_with fail
  refine (HRD.out _).mono ?_
  rintro e w2 ⟨A, c, rfl, hb2⟩
  have HB2 := Lib.hid (HB1.out.trans (hb2.mono HB1.out.size))
  clear hb2
  go_upto_region 9 with fail
  obtain ⟨w3, hw3⟩ : ∃ w3, w3 = w2.alloc (.cells #[.int .i64 q, .bool false, .slice A 0 c] 99) := ⟨_, rfl⟩
  obtain ⟨g6, hg6⟩ : ∃ g6, g6 = w2.heap.size := ⟨_, rfl⟩
  rw [← hw3, ← hg6]
  have HH3 : Hid (Blk w3 g6 99 #[.int .i64 q, .bool false, .slice A 0 c]) := Lib.hid (by rw [hw3, hg6]; exact Blk.new w2 _ _)
  have HB3 : Hid (Below w.heap.size w w3) := Lib.hid (by rw [hw3]; exact HB2.out.alloc HB2.out.size _)
  have c0 := HH3.out.cell 0
  have c1 := HH3.out.cell 1
  have c2 := HH3.out.cell 2
  simp at c0 c1 c2
  clear hw3 hg6
  go_wp2_with fail
  refine (HDN.out _ A c).mono ?_
  rintro e w4 ⟨rfl, hb4⟩
  have HH4 := Lib.hid (HH3.out.below hb4 HH3.out.lt)
  have HB4 := Lib.hid (HB3.out.trans (hb4.mono HB3.out.size))
  clear hb4 c0 c1 c2
  go_upto_region 10 with fail
  obtain ⟨w5, hw5⟩ : ∃ w5, w5 = w4.alloc (.cells (walC gd q true 0) 101) := ⟨_, rfl⟩
  obtain ⟨gw, hgw⟩ : ∃ gw, gw = w4.heap.size := ⟨_, rfl⟩
  unfold walC at hw5
  rw [← hw5, ← hgw]
  have HH5 : Hid (Blk w5 gw 101 (walC gd q true 0)) := Lib.hid (by rw [hw5, hgw]; exact Blk.new w4 _ _)
  have HB5 : Hid (Below w.heap.size w w5) := Lib.hid (by rw [hw5]; exact HB4.out.alloc HB4.out.size _)
  have HG5 : Hid (w.heap.size ≤ gw) := Lib.hid (by rw [hgw]; exact HB4.out.size)
  have c1 : w5.cell? ⟨g6, 1, none⟩ = some (.bool false) := by
    have := (HH4.out.below ((Below.refl _ _).alloc (Nat.le_refl _) (.cells (walC gd q true 0) 101)) HH4.out.lt).cell 1
    unfold walC at this
    rw [← hw5] at this
    exact this
  clear hw5 hgw
  go_wp2_with fail
  go_ret2
  exact ⟨gw, rfl, HH5.out, HG5.out, HB5.out⟩
end
theorem read_zero (W : World) : Calls Tryz.prog 101 #[.string (zeroB 256)] W fun e w' => ∃ A c, e = .returned (.tuple #[.agg #[.int .i64 0, .bool false, .slice A 0 c], .int .i64 0]) ∧ Below W.heap.size W w' := by
  have hH : readHD (zeroB 256).data.toList = (HD.mk 0 false [], 0) := by
    have e : (zeroB 256).data.toList = List.replicate 256 0 := zeroB_list 256
    rw [e]
    unfold readHD
    rw [if_neg (fun h => h List.length_replicate), if_pos (List.all_eq_true.2 (fun x hx => by rw [List.eq_of_mem_replicate hx]; rfl))]
    rfl
  refine (hread_own (zeroB 256) W).mono ?_
  rw [hH]
  rintro e w' ⟨A, c, rfl, -, -, h3⟩
  exact ⟨A, c, rfl, h3⟩
theorem read_done {q : Int} (h0 : 0 ≤ q) (h1 : q ≤ 1099511627776) (W : World) : Calls Tryz.prog 101 #[.string (bs (HD.mk q false []).text)] W fun e w' => ∃ A c, e = .returned (.tuple #[.agg #[.int .i64 q, .bool false, .slice A 0 c], .int .i64 0]) ∧ Below W.heap.size W w' := by
  refine (hread_laid (HD.mk q false []) (by unfold HD.validB; simp; exact ⟨h0, h1⟩) W).mono ?_
  rintro e w' ⟨A, c, rfl, -, h3⟩
  exact ⟨A, c, rfl, h3⟩
theorem calm_read {s : List ByteArray} {n : Nat} {x : ByteArray} {i : Nat} (h : s[i]? = some x) : (calm s n).read (i : Int) = x ∧ (calm s n).errR (i : Int) = 0 := by
  have hi : i < s.length := by
    rcases Nat.lt_or_ge i s.length with h' | h'
    · exact h'
    · rw [List.getElem?_eq_none h'] at h; cases h
  constructor
  · unfold DS.read
    rw [if_pos ⟨rfl, by omega, by show (i : Int) < (s.length : Int); omega⟩, Int.toNat_natCast, List.getD_eq_getElem?_getD]
    show (s[i]?).getD .empty = _
    rw [h]
    rfl
  · unfold DS.errR
    rw [if_pos (show (calm s n).on = true from rfl), if_pos ⟨by omega, by show (i : Int) < (s.length : Int); omega⟩]
end Go.Proofs.YtiagofgcinlnhaaGreatDoor
