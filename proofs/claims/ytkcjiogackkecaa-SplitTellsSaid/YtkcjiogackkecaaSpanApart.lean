/-
  masonrybook's Apart, where only lists of spans are kept. No statement is proved here.
-/
import Derived.Test.YtkcjiogackkecaaSpanMarked
import Derived.Test.YtkcjiogackkecaaSpanNone
namespace Go.Proofs.Ytkcjiogackkecaa
open Go.RowKit

/-- The book with lists of spans alone. -/
def bookS (P Q : Value) : Array Value := #[.slice none 0 0, .slice none 0 0, .slice none 0 0, .slice none 0 0, P, Q, .slice none 0 0, .slice none 0 0, .slice none 0 0, .slice none 0 0, .slice none 0 0, .slice none 0 0, .slice none 0 0, .slice none 0 0, .slice none 0 0, .slice none 0 0]
theorem PutToS.vals {ls zs : List LS} {i j : Nat} (h : PutToS ls zs i j) : zs.map LS.val = ls.map LS.val := by
  apply List.ext_getElem?
  intro a
  rw [List.getElem?_map, List.getElem?_map]
  rcases Nat.lt_or_ge a ls.length with ha | ha
  · have hz : a < zs.length := by rw [h.len]; exact ha
    rw [List.getElem?_eq_getElem ha, List.getElem?_eq_getElem hz]
    obtain ⟨e1, e2, e3⟩ := h.like a zs[a] ls[a] (List.getElem?_eq_getElem hz) (List.getElem?_eq_getElem ha)
    simp only [Option.map_some]
    unfold LS.val
    rw [e1, e2, e3]
  · rw [List.getElem?_eq_none ha, List.getElem?_eq_none (by rw [h.len]; exact ha)]
theorem freeS_vals {ls zs : List LS} (h : zs.map LS.val = ls.map LS.val) {b : Nat} (hf : FreeS ls b) : FreeS zs b := fun l hl => by
  have : l.val ∈ ls.map LS.val := by rw [← h]; exact List.mem_map_of_mem hl
  obtain ⟨l', hl', e⟩ := List.mem_map.1 this
  rw [← e]
  exact hf l' hl'
theorem row_atS {w : World} {base n cap : Nat} {p : Option Addr} {vs : List Value} (h : w.ownsRow base 33 1 (.slice p n cap) n vs) : RowAt w p vs := fun hp => by
  have hl := h.1
  obtain ⟨g, c, e, _, hlt⟩ := h.form (by omega)
  injection e with e1 _ e3
  subst e1 e3
  exact ⟨g, 0, rfl, hlt, fun j v hv => by rw [Nat.zero_add]; exact krow_cell h hv⟩
theorem Blk.butKept {w w' : World} {ls : List LS} {B g : Nat} {t : TypeId} {cs : Array Value} (h : Blk w g t cs) (hk : KeptS ls B w w') (hf : FreeS ls g) : Blk w' g t cs := (hk.block g h.lt hf).trans h

set_option maxRecDepth 100000 in
set_option maxHeartbeats 8000000 in
theorem sapart_any (g B : Nat) (p q : Option Addr) (k cp cq : Nat) (ls us : List LS) (w : World) (hbk : Blk w g 61 (bookS (.slice p k cp) (.slice q k cq))) (hB : B ≤ w.heap.size)
    (hk : ls.length = k) (hk' : us.length = k) (hp : RowAt w p (ls.map LS.val)) (hq : RowAt w q (us.map LS.val)) (hb : k ≤ 1000) (hr : RowsS w B ls) (hfg : FreeS ls g) (hfp : ∀ a, p = some a → FreeS ls a.block) (hn : ∀ l ∈ ls, l.xs.length ≤ 900000)
    (hs : ∀ (i : Nat) (l u : LS), ls[i]? = some l → us[i]? = some u → l.xs = u.xs ∧ Spans w w.heap.size u.A l.xs) :
    Calls Try.prog 28 #[.pointer (some ⟨g, 0, none⟩)] w fun e w' => e = .returned (.bool true) ∧ Below B w w' := by
  have hli : ∀ (W : World) (ys : List LS), RowsS W B ys → ∀ (a : Nat) (z : LS), ys[a]? = some z → Spans W W.heap.size z.A z.xs := fun W ys hr a z hz => row_spans (hr.own a z hz)
  have HSTILL : Hid (Calls Try.prog 46 #[.pointer (some ⟨g, 0, none⟩)] w fun e w' => e = .returned (.bool true) ∧ Below w.heap.size w w') := Lib.hid (sstill_any g p q k cp cq ls us w hbk.lt (hbk.cell 4) (hbk.cell 5) hk hk' hp hq hb (fun i l u h1 h2 => ⟨(hs i l u h1 h2).1, hli w ls hr i l h1, (hs i l u h1 h2).2, Nat.le_trans (hn l (List.mem_of_getElem? h1)) (by omega)⟩))
  have HC : ∀ (W : World), Blk W g 61 (bookS (.slice p k cp) (.slice q k cq)) → W.cell? ⟨g, 0, none⟩ = some (.slice none 0 0) ∧ W.cell? ⟨g, 2, none⟩ = some (.slice none 0 0) ∧ W.cell? ⟨g, 6, none⟩ = some (.slice none 0 0) ∧ W.cell? ⟨g, 8, none⟩ = some (.slice none 0 0) ∧ W.cell? ⟨g, 10, none⟩ = some (.slice none 0 0) ∧ W.cell? ⟨g, 12, none⟩ = some (.slice none 0 0) ∧ W.cell? ⟨g, 14, none⟩ = some (.slice none 0 0) := fun W h => ⟨h.cell 0, h.cell 2, h.cell 6, h.cell 8, h.cell 10, h.cell 12, h.cell 14⟩
  have HBK := Lib.hid hbk
  have HCC := Lib.hid HC
  have HBS := Lib.hid hB
  have HK := Lib.hid hk
  have HP := Lib.hid hp
  have HR := Lib.hid hr
  have HFG := Lib.hid hfg
  have HFP := Lib.hid hfp
  have HN := Lib.hid hn
  have HLI := Lib.hid hli
  clear hbk hB hk hk' hp hq hr hfg hfp hn hs hli HC
  go_enter Try.func28, Try.ntmps28
  go_wp2_with fail
  refine (stillTexts_none g _ (HCC.out _ HBK.out).1).mono ?_
  rintro e wz ⟨rfl, rfl⟩
  go_wp2_with fail
  refine (stillInts_none g _ (HCC.out _ HBK.out).2.1).mono ?_
  rintro e wz ⟨rfl, rfl⟩
  go_wp2_with fail
  refine HSTILL.out.mono ?_
  rintro e w1 ⟨rfl, hb1⟩
  have HB1 := Lib.hid hb1
  have HK1 := Lib.hid (HBK.out.below hb1 HBK.out.lt)
  clear hb1
  go_wp2_with fail
  refine (stillPieces_none g _ (HCC.out _ HK1.out).2.2.1).mono ?_
  rintro e wz ⟨rfl, rfl⟩
  go_wp2_with fail
  refine (stillEntries_none g _ (HCC.out _ HK1.out).2.2.2.1).mono ?_
  rintro e wz ⟨rfl, rfl⟩
  go_wp2_with fail
  refine (stillObjects_none g _ (HCC.out _ HK1.out).2.2.2.2.1).mono ?_
  rintro e wz ⟨rfl, rfl⟩
  go_wp2_with fail
  refine (stillWrites_none g _ (HCC.out _ HK1.out).2.2.2.2.2.1).mono ?_
  rintro e wz ⟨rfl, rfl⟩
  go_wp2_with fail
  refine (stillSteps_none g _ (HCC.out _ HK1.out).2.2.2.2.2.2).mono ?_
  rintro e wz ⟨rfl, rfl⟩
  go_wp2_with fail
  refine (putSteps_none g _ (HCC.out _ HK1.out).2.2.2.2.2.2).mono ?_
  rintro e wz ⟨rfl, rfl⟩
  go_wp2_with fail
  refine (putTexts_none g _ (HCC.out _ HK1.out).1).mono ?_
  rintro e wz ⟨rfl, rfl⟩
  have hput := sput_any g B p k cp ls w1 HK1.out.lt (Nat.le_trans HBS.out HB1.out.size) (HK1.out.cell 4) HK.out (HP.out.below HB1.out) hb (HR.out.below HB1.out) HFG.out HFP.out (fun l hl => Nat.le_trans (HN.out l hl) (by omega))
  have HPUT := Lib.hid hput
  clear hput
  go_wp2_with fail
  refine (putInts_none g _ (HCC.out _ HK1.out).2.1).mono ?_
  rintro e wz ⟨rfl, rfl⟩
  go_wp2_with fail
  refine HPUT.out.mono ?_
  rintro e w2 ⟨rfl, zs, hpt, hrz, hkb⟩
  have HK2 := Lib.hid (Blk.butKept HK1.out hkb HFG.out)
  have HV : Hid (zs.map LS.val = ls.map LS.val) := Lib.hid hpt.vals
  have HPT := Lib.hid hpt
  have HRZ := Lib.hid hrz
  have HB2 : Hid (Below B w w2) := Lib.hid ((HB1.out.mono HBS.out).trans hkb.below)
  have HP2 : Hid (RowAt w2 p (zs.map LS.val)) := Lib.hid (by
    rw [HV.out]
    intro hp0
    obtain ⟨b, off, e, hbl, hc⟩ := (HP.out.below HB1.out) hp0
    exact ⟨b, off, e, Nat.lt_of_lt_of_le hbl hkb.below.size, fun j v hv => (hkb.cell (p := ⟨b, off + j, none⟩) hbl (show FreeS ls b from HFP.out ⟨b, off, none⟩ e)).trans (hc j v hv)⟩)
  clear hpt hrz hkb HPUT
  go_wp2_with fail
  refine (putPieces_none g _ (HCC.out _ HK2.out).2.2.1).mono ?_
  rintro e wz ⟨rfl, rfl⟩
  go_wp2_with fail
  refine (putEntries_none g _ (HCC.out _ HK2.out).2.2.2.1).mono ?_
  rintro e wz ⟨rfl, rfl⟩
  go_wp2_with fail
  refine (putObjects_none g _ (HCC.out _ HK2.out).2.2.2.2.1).mono ?_
  rintro e wz ⟨rfl, rfl⟩
  go_wp2_with fail
  refine (putWrites_none g _ (HCC.out _ HK2.out).2.2.2.2.2.1).mono ?_
  rintro e wz ⟨rfl, rfl⟩
  go_wp2_with fail
  refine (growTexts_none g _ (HCC.out _ HK2.out).1).mono ?_
  rintro e wz ⟨rfl, rfl⟩
  have hgrow := sgrow_any g B p k cp zs w2 HK2.out.lt (Nat.le_trans HBS.out HB2.out.size) (HK2.out.cell 4) (by rw [HPT.out.len, HK.out]) HP2.out hb HRZ.out (freeS_vals HV.out HFG.out) (fun a ha => freeS_vals HV.out (HFP.out a ha)) (fun z hz => by
    obtain ⟨i, hi⟩ := List.mem_iff_getElem?.1 hz
    have hil : i < ls.length := by
      rw [← HPT.out.len]
      rcases Nat.lt_or_ge i zs.length with h | h
      · exact h
      · rw [List.getElem?_eq_none h] at hi; cases hi
    rw [(HPT.out.like i z _ hi (List.getElem?_eq_getElem hil)).2.2]
    exact HN.out _ (List.getElem_mem hil)) (fun i z hz => HPT.out.done i z hz (by
    rw [← HK.out, ← HPT.out.len]
    rcases Nat.lt_or_ge i zs.length with h | h
    · exact h
    · rw [List.getElem?_eq_none h] at hz; cases hz)) (HLI.out w2 zs HRZ.out)
  have HGROW := Lib.hid hgrow
  clear hgrow
  go_wp2_with fail
  refine (growInts_none g _ (HCC.out _ HK2.out).2.1).mono ?_
  rintro e wz ⟨rfl, rfl⟩
  go_wp2_with fail
  refine HGROW.out.mono ?_
  rintro e w3 ⟨v, gs, rfl, hst, hrow⟩
  obtain ⟨vp, vc, rfl, -, -, -, -⟩ := krow_form hrow
  have HK3 := Lib.hid (Blk.butKept HK2.out hst.kept (freeS_vals HV.out HFG.out))
  have HB3 : Hid (Below B w w3) := Lib.hid (HB2.out.trans hst.kept.below)
  have HST := Lib.hid hst
  have HMG : Hid (∀ W, Below w3.heap.size w3 W → Calls Try.prog 70 #[.slice vp k vc] W fun e w' => e = .returned (.bool true) ∧ Below W.heap.size W w') := Lib.hid (fun W hW => smarked_any vp k vc gs W hst.len ((row_atS hrow).below hW) hb (fun i l hl => by
    obtain ⟨r1, r2, r3, r4⟩ := hst.rows i l hl
    exact ⟨r2, ((row_spans r1).below hW).more hW.size, r3⟩))
  have HMZ : Hid (∀ W, Below w3.heap.size w3 W → Calls Try.prog 70 #[.slice p k cp] W fun e w' => e = .returned (.bool true) ∧ Below W.heap.size W w') := Lib.hid (fun W hW => smarked_any p k cp zs W (by rw [HPT.out.len, HK.out]) (RowAt.below (fun hp0 => by
      obtain ⟨b, off, e, hbl, hc⟩ := HP2.out hp0
      exact ⟨b, off, e, Nat.lt_of_lt_of_le hbl hst.kept.below.size, fun j v hv => (hst.kept.cell (p := ⟨b, off + j, none⟩) hbl (freeS_vals HV.out (show FreeS ls b from HFP.out ⟨b, off, none⟩ e))).trans (hc j v hv)⟩) hW) hb (fun i z hz => ⟨HPT.out.done i z hz (by
      rw [← HK.out, ← HPT.out.len]
      rcases Nat.lt_or_ge i zs.length with h | h
      · exact h
      · rw [List.getElem?_eq_none h] at hz; cases hz), ((hst.zspans i z hz).below hW).more hW.size, by
      have hil : i < ls.length := by
        rw [← HPT.out.len]
        rcases Nat.lt_or_ge i zs.length with h | h
        · exact h
        · rw [List.getElem?_eq_none h] at hz; cases hz
      rw [(HPT.out.like i z _ hz (List.getElem?_eq_getElem hil)).2.2]
      exact Nat.le_trans (HN.out _ (List.getElem_mem hil)) (by omega)⟩))
  clear hst hrow HGROW
  go_wp2_with fail
  refine (growPieces_none g _ (HCC.out _ HK3.out).2.2.1).mono ?_
  rintro e wz ⟨rfl, rfl⟩
  go_wp2_with fail
  refine (growEntries_none g _ (HCC.out _ HK3.out).2.2.2.1).mono ?_
  rintro e wz ⟨rfl, rfl⟩
  go_wp2_with fail
  refine (growObjects_none g _ (HCC.out _ HK3.out).2.2.2.2.1).mono ?_
  rintro e wz ⟨rfl, rfl⟩
  go_wp2_with fail
  refine (growWrites_none g _ (HCC.out _ HK3.out).2.2.2.2.2.1).mono ?_
  rintro e wz ⟨rfl, rfl⟩
  go_wp2_with fail
  refine (growSteps_none g _ (HCC.out _ HK3.out).2.2.2.2.2.2).mono ?_
  rintro e wz ⟨rfl, rfl⟩
  obtain ⟨c0, c2, c6, c8, c10, c12, c14⟩ := HCC.out _ HK3.out
  have c4 := HK3.out.cell 4
  simp [bookS] at c4
  go_wp2_with fail
  refine (markedTexts_none _).mono ?_
  rintro e wz ⟨rfl, rfl⟩
  go_wp2_with fail
  refine (markedTexts_none _).mono ?_
  rintro e wz ⟨rfl, rfl⟩
  go_wp2_with fail
  refine (markedInts_none _).mono ?_
  rintro e wz ⟨rfl, rfl⟩
  go_wp2_with fail
  refine (markedInts_none _).mono ?_
  rintro e wz ⟨rfl, rfl⟩
  go_wp2_with fail
  refine (HMG.out _ (Below.refl _ _)).mono ?_
  rintro e w4 ⟨rfl, hb4⟩
  have HB4 := Lib.hid hb4
  have HK4 := Lib.hid (HK3.out.below hb4 HK3.out.lt)
  have d2 := HK4.out.cell 4
  simp [bookS] at d2
  clear hb4 c0 c2 c4 c6 c8 c10 c12 c14
  go_wp2_with fail
  refine (HMZ.out _ HB4.out).mono ?_
  rintro e w5 ⟨rfl, hb5⟩
  have HB5 := Lib.hid (HB4.out.trans (hb5.mono HB4.out.size))
  have HK5 := Lib.hid (HK4.out.below hb5 HK4.out.lt)
  obtain ⟨c0, c2, c6, c8, c10, c12, c14⟩ := HCC.out _ HK5.out
  clear hb5 d2
  go_wp2_with fail
  refine (markedPieces_none _).mono ?_
  rintro e wz ⟨rfl, rfl⟩
  go_wp2_with fail
  refine (markedPieces_none _).mono ?_
  rintro e wz ⟨rfl, rfl⟩
  go_wp2_with fail
  refine (markedEntries_none _).mono ?_
  rintro e wz ⟨rfl, rfl⟩
  go_wp2_with fail
  refine (markedEntries_none _).mono ?_
  rintro e wz ⟨rfl, rfl⟩
  go_wp2_with fail
  refine (markedObjects_none _).mono ?_
  rintro e wz ⟨rfl, rfl⟩
  go_wp2_with fail
  refine (markedObjects_none _).mono ?_
  rintro e wz ⟨rfl, rfl⟩
  go_wp2_with fail
  refine (markedWrites_none _).mono ?_
  rintro e wz ⟨rfl, rfl⟩
  go_wp2_with fail
  refine (markedWrites_none _).mono ?_
  rintro e wz ⟨rfl, rfl⟩
  go_wp2_with fail
  refine (markedSteps_none _).mono ?_
  rintro e wz ⟨rfl, rfl⟩
  go_wp2_with fail
  refine (markedSteps_none _).mono ?_
  rintro e wz ⟨rfl, rfl⟩
  go_wp2_with fail
  go_ret
  exact ⟨rfl, HB3.out.trans (HB5.out.mono (Nat.le_trans HBS.out HB3.out.size))⟩
end Go.Proofs.Ytkcjiogackkecaa
