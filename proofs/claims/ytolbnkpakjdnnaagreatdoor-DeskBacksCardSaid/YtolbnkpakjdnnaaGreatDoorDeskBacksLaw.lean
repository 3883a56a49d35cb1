/-
  DeskBacks: the law's walk. No statement is proved here.
-/
import Derived.Test.YtolbnkpakjdnnaaGreatDoorIntsView
import Derived.Test.YtolbnkpakjdnnaaGreatDoorDeskSeen
import Derived.Test.YtolbnkpakjdnnaaGreatDoorDeskLight
namespace Go.Proofs.YtolbnkpakjdnnaaGreatDoor
open Go.RowKit

theorem Run11.few {N : Nat} {K : KD} {h : List ByteArray} {c : Nat} (r : Run11 N K h c) : ∀ t, (homeG K h t).size ≤ 100000 := by
  intro t
  unfold homeG
  split
  · exact r.fsize _
  · rw [List.getD_eq_getElem?_getD]
    rcases hx : h[t]? with _ | x
    · decide
    · obtain ⟨hs, -⟩ := r.now
      have hlt : t < h.length := by
        rcases Nat.lt_or_ge t h.length with h' | h'
        · exact h'
        · rw [List.getElem?_eq_none h'] at hx; cases hx
      have h2 := hs.home t (by rw [← hs.hlen]; exact hlt)
      have := hs.small x (List.mem_of_getElem? (h2.trans hx))
      show x.size ≤ _
      omega
theorem Run11.run {N : Nat} {K : KD} {h : List ByteArray} {c : Nat} (r : Run11 N K h c) : ∀ ds : List Op11, Run11 N (runK N K ds) h c := by
  intro ds
  induction ds generalizing K with
  | nil => exact r
  | cons d ds ih => exact ih (r.step d (fillB_size _))
theorem light_cases (e : Ending) (ds : List Op11) (h : LightSays11 ds e) : e = .returned (.bool false) ∨ (e = .returned (.bool true) ∧ ds.length ≤ 60 ∧ ∀ d ∈ ds, d.light) := by
  obtain ⟨r, rfl, h⟩ := h
  cases r with
  | false => exact .inl rfl
  | true => exact .inr ⟨rfl, h rfl⟩
set_option maxRecDepth 100000 in
set_option maxHeartbeats 16000000 in
theorem dbacks_any (A1 : Option Addr) (n1 c1 : Nat) (ds1 : List Op11) (A2 : Option Addr) (n2 c2 : Nat) (ds2 : List Op11) (tw : Bool) (w : World) (h1 : Acts11In w A1 n1 c1 ds1) (h2 : Acts11In w A2 n2 c2 ds2) :
    Calls Tryz.prog 8 #[.slice A1 n1 c1, .slice A2 n2 c2, .bool tw] w fun e w' => e = .returned (.bool true) ∧ Below w.heap.size w w' := by
  have HA := Lib.hid alive11_any
  have HL1 := Lib.hid (light11_any A1 n1 c1 ds1 w w h1 (Below.refl _ _))
  have HL2 : Hid (∀ w1, Below w.heap.size w w1 → Calls Tryz.prog 29 #[.slice A2 n2 c2] w1 fun e w' => LightSays11 ds2 e ∧ Below w1.heap.size w1 w') := Lib.hid (fun w1 hb => light11_any A2 n2 c2 ds2 w w1 h2 hb)
  have HN : Hid (∀ w1, Calls Tryz.prog 31 #[.int .i64 180] w1 fun e w' => ∃ g O, e = .returned (.tuple #[.pointer (some ⟨g, 0, none⟩), .int .i64 0]) ∧ DiskAt w' O g (DS.fresh 180 (zeroB 256)) ∧ (∀ b ∈ O, w1.heap.size ≤ b) ∧ Below w1.heap.size w1 w') := Lib.hid (fun w1 => dnew_yes 180 180 w1 rfl (by omega) (by omega))
  have HMK : Hid (∀ (w1 : World) (gd : Nat) (O : List Nat), DiskAt w1 O gd (DS.fresh 180 (zeroB 256)) → (∀ b ∈ O, w.heap.size ≤ b) → Below w.heap.size w w1 → Calls Tryz.prog 32 #[.pointer (some ⟨gd, 0, none⟩)] w1 fun e w' => ∃ g K h, e = .returned (.tuple #[.pointer (some ⟨g, 0, none⟩), .int .i64 0]) ∧ DSt w w' g gd 1 K ∧ Fresh11 180 K h) := Lib.hid (fun w1 gd O hd hO hb => (make_any (by omega) w w1 hb hd hO).mono (fun e w' ⟨g, h, he, hs, hf⟩ => ⟨g, _, h, he, hs, hf⟩))
  have HI1 := Lib.hid h1
  have HI2 := Lib.hid h2
  clear h1 h2
  go_enter Tryz.func8, Tryz.ntmps8
  go_wp2_with fail
  refine HL1.out.mono ?_
  rintro e w1 ⟨hl1, hb1⟩
  have HB1 := Lib.hid hb1
  clear hb1 HL1
  rcases light_cases _ _ hl1 with rfl | ⟨rfl, hn1, hf1⟩
  · clear hl1
    go_wp2_with (go_at_call 30; refine (HA.out _).mono ?_; rintro e w2 ⟨rfl, hb2⟩; have HB2 := Lib.hid (HB1.out.trans (hb2.mono HB1.out.size)); clear hb2)
    go_ret
    exact ⟨rfl, HB2.out⟩
  have HF1 := Lib.hid hf1
  have HM1 : Hid (n1 ≤ 60) := Lib.hid (by rw [← HI1.out.len]; exact hn1)
  clear hl1 hf1 hn1
  go_wp2_with fail
  refine (HL2.out _ HB1.out).mono ?_
  rintro e w2 ⟨hl2, hb2⟩
  have HB2 := Lib.hid (HB1.out.trans (hb2.mono HB1.out.size))
  clear hb2 HL2 HB1
  rcases light_cases _ _ hl2 with rfl | ⟨rfl, hn2, hf2⟩
  · clear hl2
    go_wp2_with (go_at_call 30; refine (HA.out _).mono ?_; rintro e w3 ⟨rfl, hb3⟩; have HB3 := Lib.hid (HB2.out.trans (hb3.mono HB2.out.size)); clear hb3)
    go_ret
    exact ⟨rfl, HB3.out⟩
  have HF2 := Lib.hid hf2
  have HM2 : Hid (n2 ≤ 60) := Lib.hid (by rw [← HI2.out.len]; exact hn2)
  clear hl2 hf2 hn2
  go_wp2_with fail
  refine (HA.out _).mono ?_
  rintro e w3 ⟨rfl, hb3⟩
  have HB3 := Lib.hid (HB2.out.trans (hb3.mono HB2.out.size))
  clear hb3 HB2 HA
  go_wp2_with fail
  refine (HN.out _).mono ?_
  rintro e w4 ⟨gd, O, rfl, hd, hO, hb4⟩
  have HFM := Lib.hid (HMK.out w4 gd O hd (fun b hb => Nat.le_trans HB3.out.size (hO b hb)) (HB3.out.trans (hb4.mono HB3.out.size)))
  clear hd hO hb4 HMK HN HB3
  go_wp2_with fail
  refine HFM.out.mono ?_
  rintro e w5 ⟨g, K0, h, rfl, hs5, hf⟩
  obtain ⟨gw, c0, -, -, -⟩ := hs5.wal
  have HR0 := Lib.hid hf.run
  have HS5 : Hid (DMk w w5 g gd 1 180 K0 []) := Lib.hid (DMk.of hs5)
  clear hs5 hf HFM
  obtain ⟨K1, hK1⟩ : ∃ K1, K1 = runK 180 K0 ds1 := ⟨_, rfl⟩
  obtain ⟨K2, hK2⟩ : ∃ K2, K2 = runK 180 K1 ds2 := ⟨_, rfl⟩
  obtain ⟨K3, hK3⟩ : ∃ K3, K3 = runK 180 K2 ds1 := ⟨_, rfl⟩
  have HR1 : Hid (Run11 180 K1 h 2) := Lib.hid (by rw [hK1]; exact HR0.out.run _)
  have HR2 : Hid (Run11 180 K2 h 2) := Lib.hid (by rw [hK2]; exact HR1.out.run _)
  have HR3 : Hid (Run11 180 K3 h 2) := Lib.hid (by rw [hK3]; exact HR2.out.run _)
  have HY12 : Hid (K2.syncs = K1.syncs) := Lib.hid (by rw [hK2]; exact runK_syncs _ _ _)
  have HY23 : Hid (K3.syncs = K2.syncs) := Lib.hid (by rw [hK3]; exact runK_syncs _ _ _)
  have HB21 : Hid (backK K2 K1.F K1.H = K1) := Lib.hid (by rw [hK2]; exact run_back _ _ _)
  have HB32 : Hid (backK K3 K2.F K2.H = K2) := Lib.hid (by rw [hK3]; exact run_back _ _ _)
  have HRUN : Hid (∀ (A : Option Addr) (n c : Nat) (ds : List Op11) (K K' : KD) (w1 : World) (m : Nat) (Ms : List MK), Acts11In w A n c ds → n ≤ 60 → (∀ d ∈ ds, d.light) → DMk w w1 g gd m 180 K Ms → Run11 180 K h 2 → m ≤ 1000 → K' = runK 180 K ds → Calls Tryz.prog 53 #[.pointer (some ⟨g, 0, none⟩), .slice A n c] w1 fun e w' => e = .returned (.tuple #[]) ∧ ∃ m', m' ≤ m + n ∧ DMk w w' g gd m' 180 K' Ms) := Lib.hid (by
    intro A n c ds K K' w1 m Ms hi hn hf hs hr hm e
    refine (krun_any A n c ds hs hr hi.len hi.lie (by omega) (fun d hd => ⟨by have := (hf d hd).1; omega, by have := (hf d hd).2; omega⟩)).mono ?_
    rintro e' w' ⟨rfl, -, m', hm', hd⟩
    exact ⟨rfl, m', hm', by rw [e]; exact hd⟩)
  obtain ⟨S, hS⟩ : ∃ S : ByteArray, S = ⟨(seenL K1 h).toArray⟩ := ⟨_, rfl⟩
  have HSN : Hid (∀ (w1 : World) (m : Nat) (Ms : List MK), DMk w w1 g gd m 180 K1 Ms → m ≤ 1000 → Calls Tryz.prog 54 #[.pointer (some ⟨g, 0, none⟩)] w1 fun e w' => e = .returned (.string S) ∧ Below w1.heap.size w1 w') := Lib.hid (fun w1 m Ms hs hm => by
    rw [hS]
    exact kseen_any hs HR1.out rfl (by omega) HR1.out.few)
  obtain ⟨S2, hS2⟩ : ∃ S : ByteArray, S = ⟨(seenL K2 h).toArray⟩ := ⟨_, rfl⟩
  have HSN2 : Hid (∀ (w1 : World) (m : Nat) (Ms : List MK), DMk w w1 g gd m 180 K2 Ms → m ≤ 1000 → Calls Tryz.prog 54 #[.pointer (some ⟨g, 0, none⟩)] w1 fun e w' => e = .returned (.string S2) ∧ Below w1.heap.size w1 w') := Lib.hid (fun w1 m Ms hs hm => by
    rw [hS2]
    exact kseen_any hs HR2.out rfl (by omega) HR2.out.few)
  have hse : (S.toList == S.toList) = true := by rw [same_text]; exact decide_eq_true rfl
  have hse2 : (S2.toList == S2.toList) = true := by rw [same_text]; exact decide_eq_true rfl
  have HK1 := Lib.hid hK1
  have HK2 := Lib.hid hK2
  have HK3 := Lib.hid hK3
  clear hS hS2 hK1 hK2 hK3
  go_wp2_with fail
  refine (HRUN.out A1 n1 c1 ds1 K0 K1 _ 1 [] HI1.out HM1.out HF1.out HS5.out HR0.out (by omega) HK1.out).mono ?_
  rintro e w6 ⟨rfl, m6, hm6, hs6⟩
  have HS6 := Lib.hid hs6
  have HM6 : Hid (m6 ≤ 100) := Lib.hid (by have := HM1.out; omega)
  clear hs6 hm6 HS5 c0
  go_wp2_with fail
  refine (dmk_mark HS6.out HR1.out).mono ?_
  rintro e w7 ⟨st, rfl, hs7, -⟩
  have HS7 := Lib.hid (hs7.hold (w' := w7.alloc (.cells #[.pointer (some ⟨st, 0, none⟩)] 79)) ((Below.refl _ _).alloc (Nat.le_refl _) _) (Nat.le_refl _) (Blk.new w7 79 #[.pointer (some ⟨st, 0, none⟩)]))
  clear hs7 HS6
  go_wp2_with fail
  refine (HSN.out _ _ _ HS7.out (by have := HM6.out; omega)).mono ?_
  rintro e w8 ⟨rfl, hb8⟩
  have HS8 := Lib.hid (HS7.out.below hb8)
  clear hb8 HS7
  go_wp2_with fail
  refine (HRUN.out A2 n2 c2 ds2 K1 K2 _ m6 _ HI2.out HM2.out HF2.out HS8.out HR1.out (by have := HM6.out; omega) HK2.out).mono ?_
  rintro e w9 ⟨rfl, m9, hm9, hs9⟩
  have HS9 := Lib.hid hs9
  have HM9 : Hid (m9 ≤ 200) := Lib.hid (by have := HM6.out; have := HM2.out; omega)
  clear hs9 hm9 HS8
  have HTAIL : Hid (∀ (w1 : World) (m : Nat) (Ms : List MK), DMk w w1 g gd m 180 K2 Ms → MK.mark st K1.syncs K1.F K1.H ∈ Ms → m ≤ 1000 → Calls Tryz.prog 43 #[.pointer (some ⟨g, 0, none⟩), .agg #[.pointer (some ⟨st, 0, none⟩)]] w1 fun e w' => e = .returned (.tuple #[]) ∧ DMk w w' g gd m 180 K1 Ms) := Lib.hid (fun w1 m Ms hs hM hm => by
    have := dmk_back hs HR2.out hM (by rw [HY12.out])
    rw [HB21.out] at this
    exact this)
  have HTAIL2 : Hid (∀ (w1 : World) (m : Nat) (Ms : List MK), DMk w w1 g gd m 180 K1 Ms → MK.mark st K1.syncs K1.F K1.H ∈ Ms → m ≤ 1000 → Calls Tryz.prog 43 #[.pointer (some ⟨g, 0, none⟩), .agg #[.pointer (some ⟨st, 0, none⟩)]] w1 fun e w' => e = .returned (.tuple #[]) ∧ DMk w w' g gd m 180 K1 Ms) := Lib.hid (fun w1 m Ms hs hM hm => dmk_back hs HR1.out hM rfl)
  have HBD : Hid (∀ (w1 : World) (m : Nat) (Ms : List MK), DMk w w1 g gd m 180 K1 Ms → Calls Tryz.prog 47 #[.pointer (some ⟨g, 0, none⟩)] w1 fun e w' => e = .returned (.int .i64 0) ∧ w' = w1) := Lib.hid (fun w1 m Ms hs => dst_bad hs.st HR1.out)
  cases tw with
  | false =>
    have cm := Blk.cell (show Blk w9 w7.heap.size 79 #[.pointer (some ⟨st, 0, none⟩)] from HS9.out.held (by simp)) 0
    simp at cm
    go_wp2_with fail
    clear cm
    refine (HTAIL.out _ _ _ HS9.out (by simp) (by have := HM9.out; omega)).mono ?_
    rintro e w10 ⟨rfl, hs10⟩
    have HS10 := Lib.hid hs10
    clear hs10 HS9
    go_wp2_with fail
    refine (HSN.out _ _ _ HS10.out (by have := HM9.out; omega)).mono ?_
    rintro e w11 ⟨rfl, hb11⟩
    have HS11 := Lib.hid (HS10.out.below hb11)
    clear hb11 HS10
    have cm := Blk.cell (show Blk w11 w7.heap.size 79 #[.pointer (some ⟨st, 0, none⟩)] from HS11.out.held (by simp)) 0
    simp at cm
    go_wp2_with fail
    clear cm
    refine (HTAIL2.out _ _ _ HS11.out (by simp) (by have := HM9.out; omega)).mono ?_
    rintro e w12 ⟨rfl, hs12⟩
    have HS12 := Lib.hid hs12
    clear hs12 HS11
    go_wp2_with fail
    refine (HSN.out _ _ _ HS12.out (by have := HM9.out; omega)).mono ?_
    rintro e w13 ⟨rfl, hb13⟩
    have HS13 := Lib.hid (HS12.out.below hb13)
    clear hb13 HS12
    go_wp2_with fail
    refine (HBD.out _ _ _ HS13.out).mono ?_
    rintro e w14 ⟨rfl, rfl⟩
    go_wp2_with fail
    go_ret
    exact ⟨rfl, HS13.out.st.at0⟩
  | true =>
    go_wp2_with fail
    refine (dmk_mark HS9.out HR2.out).mono ?_
    rintro e v1 ⟨st2, rfl, hv1, -⟩
    have HV1 := Lib.hid (hv1.hold (w' := v1.alloc (.cells #[.pointer (some ⟨st2, 0, none⟩)] 79)) ((Below.refl _ _).alloc (Nat.le_refl _) _) (Nat.le_refl _) (Blk.new v1 79 #[.pointer (some ⟨st2, 0, none⟩)]))
    clear hv1 HS9
    go_wp2_with fail
    refine (HSN2.out _ _ _ HV1.out (by have := HM9.out; omega)).mono ?_
    rintro e v2 ⟨rfl, hb2⟩
    have HV2 := Lib.hid (HV1.out.below hb2)
    clear hb2 HV1
    go_wp2_with fail
    refine (HRUN.out A1 n1 c1 ds1 K2 K3 _ m9 _ HI1.out HM1.out HF1.out HV2.out HR2.out (by have := HM9.out; omega) HK3.out).mono ?_
    rintro e v3 ⟨rfl, m3, hm3, hv3⟩
    have HV3 := Lib.hid hv3
    have HM3 : Hid (m3 ≤ 300) := Lib.hid (by have := HM9.out; have := HM1.out; omega)
    clear hv3 hm3 HV2
    have HIN : Hid (∃ Ms, MK.held w7.heap.size (.cells #[.pointer (some ⟨st, 0, none⟩)] 79) ∈ Ms ∧ MK.mark st K1.syncs K1.F K1.H ∈ Ms ∧ Calls Tryz.prog 43 #[.pointer (some ⟨g, 0, none⟩), .agg #[.pointer (some ⟨st2, 0, none⟩)]] v3 fun e w' => e = .returned (.tuple #[]) ∧ DMk w w' g gd m3 180 K2 Ms) := Lib.hid (by
      have := dmk_back HV3.out HR3.out (st := st2) (sy := K2.syncs) (F := K2.F) (H := K2.H) (by simp) (by rw [HY23.out])
      rw [HB32.out] at this
      exact ⟨_, by simp, by simp, this⟩)
    obtain ⟨MS, hmh, hmm, hin⟩ := HIN.out
    have HMH := Lib.hid hmh
    have HMM := Lib.hid hmm
    have HIN2 := Lib.hid hin
    clear HIN hmh hmm hin
    have cm := Blk.cell (show Blk v3 v1.heap.size 79 #[.pointer (some ⟨st2, 0, none⟩)] from HV3.out.held (by simp)) 0
    simp at cm
    clear HV3
    go_wp2_with fail
    clear cm
    refine HIN2.out.mono ?_
    rintro e v4 ⟨rfl, hv4⟩
    have HV4 := Lib.hid hv4
    clear hv4 HIN2
    go_wp2_with fail
    refine (HSN2.out _ _ _ HV4.out (by have := HM3.out; omega)).mono ?_
    rintro e v5 ⟨rfl, hb5⟩
    have HV5 := Lib.hid (HV4.out.below hb5)
    clear hb5 HV4
    have cm := Blk.cell (show Blk v5 w7.heap.size 79 #[.pointer (some ⟨st, 0, none⟩)] from HV5.out.held HMH.out) 0
    simp at cm
    go_wp2_with fail
    clear cm
    refine (HTAIL.out _ _ _ HV5.out HMM.out (by have := HM3.out; omega)).mono ?_
    rintro e w10 ⟨rfl, hs10⟩
    have HS10 := Lib.hid hs10
    clear hs10 HV5
    go_wp2_with fail
    refine (HSN.out _ _ _ HS10.out (by have := HM3.out; omega)).mono ?_
    rintro e w11 ⟨rfl, hb11⟩
    have HS11 := Lib.hid (HS10.out.below hb11)
    clear hb11 HS10
    have cm := Blk.cell (show Blk w11 w7.heap.size 79 #[.pointer (some ⟨st, 0, none⟩)] from HS11.out.held HMH.out) 0
    simp at cm
    go_wp2_with fail
    clear cm
    refine (HTAIL2.out _ _ _ HS11.out HMM.out (by have := HM3.out; omega)).mono ?_
    rintro e w12 ⟨rfl, hs12⟩
    have HS12 := Lib.hid hs12
    clear hs12 HS11
    go_wp2_with fail
    refine (HSN.out _ _ _ HS12.out (by have := HM3.out; omega)).mono ?_
    rintro e w13 ⟨rfl, hb13⟩
    have HS13 := Lib.hid (HS12.out.below hb13)
    clear hb13 HS12
    go_wp2_with fail
    refine (HBD.out _ _ _ HS13.out).mono ?_
    rintro e w14 ⟨rfl, rfl⟩
    go_wp2_with fail
    go_ret
    exact ⟨rfl, HS13.out.st.at0⟩
end Go.Proofs.YtolbnkpakjdnnaaGreatDoor
