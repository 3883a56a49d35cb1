/-
  CdcSame, walked. No statement is proved here.
-/
import Derived.Test.YtnmdpbnddbccmaaCdcMeetsWalk
namespace Go.Proofs.Ytnmdpbnddbccmaa
open Go.RowKit

/-- What a list of spans in a row holds in every later world. -/
theorem spans_cells {w : World} {p : Option Addr} {l : List (Int × Int)} {M : Nat} (hM : M = l.length) (h : Spans w w.heap.size p l) :
    ∀ wx, Below w.heap.size w wx → ∀ i, i < M → ∃ x0 x1 bb off, l[i]? = some (x0, x1) ∧ p = some ⟨bb, off, none⟩ ∧ wx.cell? ⟨bb, off + i * 2, none⟩ = some (.int .i64 x0) ∧ wx.cell? ⟨bb, off + i * 2 + 1, none⟩ = some (.int .i64 x1) := fun wx hx i hi => by
  obtain ⟨x0, x1, hg⟩ := spans_get hM.symm hi
  obtain ⟨bb, off, hA, hbB, hcell⟩ := h (by rw [← hM]; omega)
  obtain ⟨t0, t1⟩ := hcell i _ hg
  exact ⟨x0, x1, bb, off, hg, hA, (hx.cell (p := ⟨bb, off + i * 2, none⟩) hbB).trans t0, (hx.cell (p := ⟨bb, off + i * 2 + 1, none⟩) hbB).trans t1⟩

set_option maxRecDepth 100000 in
set_option maxHeartbeats 8000000 in
theorem csame_in (s : ByteArray) (w : World) (hs : s.size ≤ 900) :
    Calls Try.prog 7 #[.string s] w fun e w' => e = .returned (.bool true) ∧ Below w.heap.size w w' := by
  obtain ⟨l, hl⟩ : ∃ l, l = cutL dfl 0 (cats [s]) := ⟨_, rfl⟩
  obtain ⟨M, hM⟩ : ∃ M, M = l.length := ⟨_, rfl⟩
  have hsz : s.data.toList.length = s.size := by rw [← Lib.size_eq]
  have HL := Lib.hid hl
  have HM := Lib.hid hM
  have HSZ := Lib.hid hsz
  have HM1 : Hid (M ≤ 900) := Lib.hid (by rw [hM, hl]; have := cutL_few dfl 0 (cats [s]); rw [cat1] at this ⊢; omega)
  have h1 : decide ((900 : Int) < (s.size : Int)) = false := decide_eq_false (by omega)
  clear hl hM hsz
  go_enter Try.func7, Try.ntmps7
  go_wp2_with fail
  refine (alive14_any _).mono ?_
  rintro e w1 ⟨rfl, hb1⟩
  have HB1 := Lib.hid hb1
  clear hb1
  go_wp2_with fail
  refine (default_any _).mono ?_
  rintro e w2 ⟨rfl, hb2⟩
  obtain ⟨g, hg⟩ : ∃ g, g = w2.heap.size := ⟨_, rfl⟩
  obtain ⟨w3, hw3⟩ : ∃ w3, w3 = w2.alloc (.cells #[.int .i64 32, .int .i64 64, .int .i64 128, .int .i64 7, .int .i64 5] 23) := ⟨_, rfl⟩
  have hbk : RuleAt w3 g dfl := by rw [hw3, hg]; exact dfl_new w2
  have HK := Lib.hid hbk
  have HB3 : Hid (Below w.heap.size w w3) := Lib.hid (by rw [hw3]; have := HB1.out.trans (hb2.mono HB1.out.size); exact this.alloc this.size _)
  go_upto_region 4 with fail
  rw [← hw3, ← hg]
  clear hb2 hg hw3 hbk
  obtain ⟨c0, c1, c2, c3, c4⟩ := dfl_cells HK.out
  have HCUT := Lib.hid (dfl_cut (some ⟨w3.heap.size, 0, none⟩) 1 1 [s] (w3.alloc (.cells #[.string s] 9)) rfl (txts_at _ _ _ _ rfl rfl) (by omega) (Nat.le_refl _) (by rw [cat1]; have := HSZ.out; omega) l HL.out M HM.out)
  go_wp2_with fail
  refine HCUT.out.mono ?_
  rintro e w4 ⟨p, cap, rfl, hown, hb4⟩
  have hb34 : Below w3.heap.size w3 w4 := ((Below.refl _ _).alloc (Nat.le_refl _) _).trans (hb4.mono (by simp))
  have HB4 := Lib.hid (HB3.out.trans (hb34.mono HB3.out.size))
  have HK4 := Lib.hid (HK.out.below hb34 HK.out.lt)
  have HSP : Hid (Spans w4 w4.heap.size p l) := Lib.hid (row_spans (by rw [← HM.out]; exact hown))
  have HRL := Lib.hid (spans_cells HM.out HSP.out)
  clear hown hb4 hb34 c0 c1 c2 c3 c4 HCUT
  by_cases hM2 : M < 2
  · have hM2' : (M : Int) < 2 := by omega
    go_wp2_with fail
    go_ret
    exact ⟨rfl, HB4.out⟩
  obtain ⟨n, hn⟩ : ∃ n, n = M - 1 := ⟨_, rfl⟩
  have hM2' : decide ((M : Int) < 2) = false := decide_eq_false (by omega)
  have hwn : IntKind.i64.wrap ((M : Int) - 1) = (n : Int) := by rw [IntKind.wrap_i64]; have := HM1.out; omega
  have hnM : n < M := by omega
  have hnI : (n : Int) < (M : Int) := by omega
  have hn9 : n ≤ 900 := by have := HM1.out; omega
  have HN1 : Hid (n = M - 1) := Lib.hid hn
  have hMn1 : M = n + 1 := by omega
  have HMN1 := Lib.hid hMn1
  obtain ⟨xn0, xn1, bb, off, hxn, hp, e0, e1⟩ := HRL.out w4 (Below.refl _ _) n hnM
  subst hp
  have hxn2 := hxn
  rw [HL.out, cat1] at hxn2
  obtain ⟨f, k0, k1, -, -⟩ := cutL_at dfl 0 _ n xn0 xn1 hxn2
  rw [Nat.zero_add] at k0
  subst k0
  rw [HSZ.out] at k1
  have hfs : f ≤ s.size := by omega
  obtain ⟨wh, hwh⟩ : ∃ wh, wh = s.extract 0 f := ⟨_, rfl⟩
  have hwl : wh.data.toList = s.data.toList.take f := by rw [hwh, extract_list, List.drop_zero]
  have hws : wh.size = f := by rw [hwh, part_size _ _ _ hfs]; omega
  obtain ⟨m, hm⟩ : ∃ m, m = cutL dfl 0 (cats [wh, wh]) := ⟨_, rfl⟩
  obtain ⟨M2, hMM⟩ : ∃ M2, M2 = m.length := ⟨_, rfl⟩
  have hmm : m = l.take n ++ (l.take n).map fun x => (x.1 + (f : Int), x.2 + (f : Int)) := by
    rw [hm, cat2, hwl, cutL_twice dfl_ok _ n f xn1 hxn2]
    have := HL.out
    rw [cat1] at this
    rw [← this]
  have hln : (l.take n).length = n := by rw [List.length_take, ← HM.out]; omega
  have hM2n : M2 = 2 * n := by rw [hMM, hmm, List.length_append, List.length_map, hln]; omega
  have HMI : Hid (∀ i, i < n → m[i]? = l[i]? ∧ ∀ x0 x1, l[i]? = some (x0, x1) → m[n + i]? = some (x0 + (f : Int), x1 + (f : Int))) := Lib.hid (fun i hi => by
    constructor
    · rw [hmm, List.getElem?_append_left (by omega), List.getElem?_take, if_pos hi]
    · intro x0 x1 hx
      rw [hmm, List.getElem?_append_right (by omega), hln, Nat.add_sub_cancel_left, List.getElem?_map, List.getElem?_take, if_pos hi, hx]
      rfl)
  have HWB : Hid (wholeB ((2 * f : Nat) : Int) m = true) := Lib.hid (by
    have h := cutL_wholeB dfl (cats [wh, wh])
    rw [← hm, cat2, List.length_append] at h
    have : wh.data.toList.length = f := by rw [← Lib.size_eq]; exact hws
    rw [this, show f + f = 2 * f by omega] at h
    exact h)
  have HBND : Hid (∀ (i : Nat) (x0 x1 : Int), l[i]? = some (x0, x1) → 0 ≤ x0 ∧ x0 < x1 ∧ x1 ≤ 900) := Lib.hid (fun i x0 x1 hx => by rw [HL.out, cat1] at hx; have := cutL_int hx; have := HSZ.out; omega)
  obtain ⟨c0, c1, c2, c3, c4⟩ := dfl_cells HK4.out
  have HCUT2 := Lib.hid (dfl_cut (some ⟨w4.heap.size, 0, none⟩) 2 2 [wh, wh] (w4.alloc (.cells #[.string wh, .string wh] 9)) rfl (txts_at _ _ _ _ rfl rfl) (by omega) (Nat.le_refl _) (by rw [cat2, List.length_append, ← Lib.size_eq]; omega) m hm M2 hMM)
  have HMM := Lib.hid hMM
  have HWH := Lib.hid hwh
  have HWS : Hid ((wh.size : Int) = (f : Int)) := Lib.hid (by omega)
  have hf9 : f ≤ 900 := by omega
  clear hwh hwl hws hm hMM hmm hln hxn hxn2 k1 hn hMn1 hM2
  go_upto_region 8 with fail
  rw [← HWH.out]
  clear e0 e1
  go_wp2_with fail
  refine HCUT2.out.mono ?_
  rintro e w5 ⟨q, cq, rfl, hown2, hb5⟩
  have hb45 : Below w4.heap.size w4 w5 := ((Below.refl _ _).alloc (Nat.le_refl _) _).trans (hb5.mono (by simp))
  have HB5 := Lib.hid (HB4.out.trans (hb45.mono HB4.out.size))
  have HB45 := Lib.hid hb45
  have HSQ : Hid (Spans w5 w5.heap.size q m) := Lib.hid (row_spans (by rw [← HMM.out]; exact hown2))
  have HRM := Lib.hid (spans_cells HMM.out HSQ.out)
  have HRW := Lib.hid (rwhole_any ((2 * f : Nat) : Int) q M2 cq m w5 HMM.out.symm HSQ.out (by omega))
  rw [HWB.out] at HRW
  have hw2 : IntKind.i64.wrap (2 * (n : Int)) = (M2 : Int) := by rw [IntKind.wrap_i64]; omega
  have hwsz := HWS.out
  have hw3 : IntKind.i64.wrap (2 * (f : Int)) = ((2 * f : Nat) : Int) := by rw [IntKind.wrap_i64]; omega
  obtain ⟨f2, hf2⟩ : ∃ f2 : Int, f2 = ((2 * f : Nat) : Int) := ⟨_, rfl⟩
  rw [← hf2] at hw3 HRW
  clear hown2 hb5 hb45 c0 c1 c2 c3 c4 HCUT2 hf2
  have hMn : M2 = 2 * n := hM2n
  have HM2N := Lib.hid hM2n
  have hself : ((M2 : Int) == (M2 : Int)) = true := by simp
  clear hM2n hMn
  go_wp2_with fail
  refine HRW.out.mono ?_
  rintro e w6 ⟨rfl, rfl⟩
  go_wp2_with fail
  go_loopw [8] (fun u wr => ∃ i : Nat, i ≤ n ∧ u = .int .i64 (i : Int) ∧ Below w5.heap.size w5 wr) (fun u _ => n - (intOf u).toNat)
  case atStart => exact ⟨0, Nat.zero_le _, rfl, Below.refl _ _⟩
  case round =>
    obtain ⟨i, hi, rfl, hbr⟩ := hrel
    have HBR := Lib.hid hbr
    clear hbr
    by_cases hlt : i < n
    · have hltI : (i : Int) < (n : Int) := by omega
      have hiM : (i : Int) < (M : Int) := by omega
      have hiM2 : (i : Int) < (M2 : Int) := by have := HM2N.out; omega
      obtain ⟨x0, x1, bl, ol, hxi, hp, e0, e1⟩ := HRL.out wr (HB45.out.trans (HBR.out.mono HB45.out.size)) i (by omega)
      injection hp with hp
      injection hp with hp1 hp2 hp3
      subst hp1 hp2
      obtain ⟨r0, r1, r2⟩ := HBND.out i x0 x1 hxi
      obtain ⟨hm1, hm2⟩ := HMI.out i hlt
      have hm2 := hm2 x0 x1 hxi
      obtain ⟨y0, y1, bm, om, hyi, hq, d0, d1⟩ := HRM.out wr HBR.out i (by have := HM2N.out; omega)
      subst hq
      rw [hm1, hxi] at hyi
      injection hyi with hyi
      injection hyi with hy0 hy1
      subst hy0 hy1
      obtain ⟨z0, z1, bm2, om2, hzi, hq, t0, t1⟩ := HRM.out wr HBR.out (n + i) (by have := HM2N.out; omega)
      injection hq with hq
      injection hq with hq1 hq2 hq3
      subst hq1 hq2
      rw [hm2] at hzi
      injection hzi with hzi
      injection hzi with hz0 hz1
      obtain ⟨NI, hNI⟩ : ∃ NI, NI = n + i := ⟨_, rfl⟩
      rw [← hNI] at t0 t1
      have hwNI : IntKind.i64.wrap ((n : Int) + (i : Int)) = (NI : Int) := by rw [IntKind.wrap_i64]; omega
      have hNIM : (NI : Int) < (M2 : Int) := by have := HM2N.out; omega
      have hw0 : IntKind.i64.wrap (x0 + (f : Int)) = z0 := by rw [IntKind.wrap_i64]; omega
      have hw1 : IntKind.i64.wrap (x1 + (f : Int)) = z1 := by rw [IntKind.wrap_i64]; omega
      clear hxi hm1 hm2 hz0 hz1 hNI hp3 hq3 hi hlt
      go_wp2_with fail
      go_quiet (fail)
      go_wp2_with fail
      go_roundw
      case rel => exact ⟨i + 1, by omega, by go_num, HBR.out.trans (below_dn _ _)⟩
      case measure => simp [intOf]; omega
    · have hltI : ¬ (i : Int) < (n : Int) := by omega
      go_wp2_with fail
      go_ret
      exact ⟨rfl, HB5.out.trans (HBR.out.mono HB5.out.size)⟩
theorem csame_any (s : ByteArray) (w : World) (_hs : s.size ≤ 140737488351232) :
    Calls Try.prog 7 #[.string s] w fun e w' => e = .returned (.bool true) ∧ Below w.heap.size w w' := by
  by_cases h : s.size ≤ 900
  · exact csame_in s w h
  · have h1 : (900 : Int) < (s.size : Int) := by omega
    clear h
    go_enter Try.func7, Try.ntmps7
    go_wp2_with fail
    refine (alive14_any _).mono ?_
    rintro e w1 ⟨rfl, hb1⟩
    go_wp2_with fail
    go_ret
    exact ⟨rfl, hb1⟩
end Go.Proofs.Ytnmdpbnddbccmaa
