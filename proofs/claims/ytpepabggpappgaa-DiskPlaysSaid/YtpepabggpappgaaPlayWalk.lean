/-
  DiskPlays, walked.
-/
import Derived.Test.YtpepabggpappgaaPlayActA
import Derived.Test.YtpepabggpappgaaPlayActB
import Derived.Test.YtpepabggpappgaaPlayActC
import Derived.Test.YtpepabggpappgaaPlayActD
import Derived.Test.YtpepabggpappgaaPlayLight
import Derived.Test.YtpepabggpappgaaPlainFresh
namespace Go.Proofs.Ytpepabggpappgaa
open Go.RowKit

theorem pair_act {w : World} {B : Nat} {A : List Nat} {g p k : Nat} {S : DS} (d : OpD) (h : PairAt w B A g p S) (hf : S.Fit k) (hk1 : k ≤ 1000) (hd : d.In w B) (hl : d.light) :
    Calls Try.prog 10 #[.pointer (some ⟨g, 0, none⟩), .pointer (some ⟨p, 0, none⟩), .agg d.cells] w fun e w' => e = .returned (.bool true) ∧ PairTurns B A g p (S.act d) w w' := by
  obtain ⟨O, P, rfl, h⟩ := h
  unfold DS.act
  by_cases h1 : d.kind = 1
  · rw [if_pos h1]; exact act1_any d h1 h hf hk1 hd hl
  · rw [if_neg h1]
    by_cases h2 : d.kind = 2
    · rw [if_pos h2]; exact act2_any d h2 h hf
    · rw [if_neg h2]
      by_cases h3 : d.kind = 3
      · rw [if_pos h3]; exact act3_any d h3 h hf hd hl
      · rw [if_neg h3]
        by_cases h4 : d.kind = 4
        · rw [if_pos h4]; exact act4_any d h4 h
        · rw [if_neg h4]
          by_cases h5 : d.kind = 5
          · rw [if_pos h5]; exact act5_any d h5 h hf hd hl
          · rw [if_neg h5]; exact act0_any d h1 h2 h3 h4 h5 h
theorem pair_same {w : World} {B : Nat} {A : List Nat} {g p k : Nat} {S : DS} (at_ : Int) (h : PairAt w B A g p S) (hf : S.Fit k) :
    Calls Try.prog 11 #[.pointer (some ⟨g, 0, none⟩), .pointer (some ⟨p, 0, none⟩), .int .i64 at_] w fun e w' => e = .returned (.bool true) ∧ Below w.heap.size w w' := by
  obtain ⟨O, P, rfl, h⟩ := h
  exact psame_any at_ h.d h.p (fun x hx => by have := hf.small.now x hx; omega) ⟨hf.len.1, by have := hf.len.2; omega⟩
theorem PlainAt.lower {w : World} {B B' : Nat} {O : List Nat} {g : Nat} {S : DS} (h : PlainAt w B O g S) (hB : B' ≤ B) (ha : S.armed = false) : PlainAt w B' O g S := by
  obtain ⟨vn, vs, vw, nv, ka, km, kc, e, h⟩ := h
  exact ⟨vn, vs, vw, nv, ka, km, kc, e, h.blk, row_base h.now hB, row_base h.safe hB, row_base h.dirty hB, (fun h1 => by rw [ha] at h1; cases h1), h.apart, Nat.le_trans hB h.low⟩
theorem fresh_fit {n : Nat} (h1 : 140 ≤ n) (h2 : n ≤ 2000) : (DS.fresh n (zeroB 256)).Fit 0 := by
  have hz : ∀ x ∈ List.replicate n (zeroB 256), x.size ≤ 256 := fun x hx => by rw [List.eq_of_mem_replicate hx]; exact Nat.le_of_eq (zeroB_size 256)
  refine ⟨DS.Ok.fresh _ _, ⟨hz, hz, by simp [DS.fresh]⟩, ?_, Nat.le_refl _, by simp [DS.fresh], by simp [DS.fresh], by simp [DS.fresh]⟩
  show 0 < (List.replicate n _).length ∧ (List.replicate n _).length ≤ 2000
  rw [List.length_replicate]
  omega
/-- Both twins. -/
theorem two_twins {w : World} {B : Nat} {A : List Nat} {g p k : Nat} {S : DS} (h : PairAt w B A g p S) (hf : S.Fit k) (hk : k ≤ 1000) :
    Calls Try.prog 8 #[.pointer (some ⟨g, 0, none⟩)] w fun e w1 => ∃ g', e = .returned (.pointer (some ⟨g', 0, none⟩)) ∧
      Calls Try.prog 9 #[.pointer (some ⟨p, 0, none⟩)] w1 fun e w2 => ∃ p', e = .returned (.pointer (some ⟨p', 0, none⟩)) ∧
        PairAt w2 B A g p S ∧ (∃ A', PairAt w2 B A' g' p' S ∧ ∀ b ∈ A', w.heap.size ≤ b) ∧ Below w.heap.size w w2 := by
  obtain ⟨O, P, rfl, h⟩ := h
  have e0 := hf.ok.len
  have e1 := hf.len
  have e2 := hf.dirty
  have e3 := hf.keep
  refine (dtwin_any h.d ⟨e1.1, by omega, by omega, by omega, by omega, by omega⟩).mono ?_
  rintro e w1 ⟨g', rfl, O', q1, q2, q3⟩
  refine ⟨g', rfl, ?_⟩
  have h1 := h.below q3
  refine (ptwin_any h1.p ⟨by omega, by omega, by omega⟩).mono ?_
  rintro e w2 ⟨p', P', rfl, k1, k2, k3⟩
  refine ⟨p', rfl, (h1.below k3).pair, ⟨O' ++ P', ⟨O', P', rfl, q1.below k3, k1, fun b hb hm => ?_, fun b hb => Nat.le_trans h.base (q2 b hb)⟩, fun b hb => ?_⟩, q3.trans (k3.mono q3.size)⟩
  · have := q1.lt hb
    have := k2 b hm
    omega
  · rcases List.mem_append.1 hb with hb | hb
    · exact q2 b hb
    · exact Nat.le_trans q3.size (k2 b hb)

set_option maxRecDepth 100000 in
set_option maxHeartbeats 16000000 in
theorem dplays_any (q : Int) (A : Option Addr) (m c : Nat) (at_ : Int) (ds : List OpD) (w : World) (hA : Acts w w.heap.size A ds) (hm : ds.length = m) (hf : ∀ d ∈ ds, d.Fits) (hmb : m ≤ 9223372036854775807) :
    Calls Try.prog 3 #[.int .i64 q, .slice A m c, .int .i64 at_] w fun e w' => e = .returned (.bool true) ∧ Below w.heap.size w w' := by
  have HLI : Hid (Calls Try.prog 4 #[.slice A m c] w fun e w' => LightSays ds e ∧ Below w.heap.size w w') := Lib.hid (by
    have := light7_any A c ds w.heap.size w hA hf (by omega) (Nat.le_refl _)
    rwa [hm] at this)
  have HA := Lib.hid hA
  have HM := Lib.hid hm
  have HF := Lib.hid hf
  clear hA hm hf
  go_enter Try.func3, Try.ntmps3
  go_wp2_with fail
  refine HLI.out.mono ?_
  rintro e w1 ⟨⟨r, rfl, hr⟩, hb1⟩
  cases r with
  | false =>
    clear hr
    go_wp2_with fail
    refine (alive7_any _).mono ?_
    rintro e w2 ⟨rfl, hb2⟩
    go_wp2_with fail
    go_ret
    exact ⟨rfl, hb1.trans (hb2.mono hb1.size)⟩
  | true =>
  have HLT := Lib.hid (hr rfl)
  have hmI : (m : Int) ≤ 40 := by have := (hr rfl).1; have := HM.out; omega
  clear hr hmb
  go_wp2_with fail
  refine (alive7_any _).mono ?_
  rintro e w2 ⟨rfl, hb2⟩
  by_cases hrange : 140 ≤ q ∧ q ≤ 2000
  rotate_left
  · have HB2 : Hid (Below w.heap.size w w2) := Lib.hid (hb1.trans (hb2.mono hb1.size))
    have HNO := Lib.hid (dnew_no q w2 (by omega))
    have hqq : q < 140 ∨ (140 ≤ q ∧ 2000 < q) := by omega
    clear hb1 hb2 hrange
    rcases hqq with h1 | ⟨h1, h2⟩
    · go_wp2_with fail
      refine HNO.out.mono ?_
      rintro e w3 ⟨rfl, rfl⟩
      go_wp2_with fail
      go_ret
      exact ⟨rfl, HB2.out⟩
    · go_wp2_with fail
      refine HNO.out.mono ?_
      rintro e w3 ⟨rfl, rfl⟩
      go_wp2_with fail
      go_ret
      exact ⟨rfl, HB2.out⟩
  obtain ⟨q0, q1⟩ := hrange
  obtain ⟨n, hq⟩ : ∃ n : Nat, q = (n : Int) := ⟨q.toNat, by omega⟩
  have HFR := Lib.hid (fresh_fit (n := n) (by omega) (by omega))
  have HNEW := Lib.hid (fun w => dnew_yes q n w hq q0 q1)
  have HPF := Lib.hid (fun w => pfresh_any q n w hq q0 q1)
  obtain ⟨S0, hS0⟩ : ∃ S, S = DS.fresh n (zeroB 256) := ⟨_, rfl⟩
  have HS0 : Hid (S0.armed = false) := Lib.hid (by rw [hS0]; rfl)
  rw [← hS0] at HFR HNEW HPF
  clear hS0 hq
  go_wp2_with fail
  refine (HNEW.out w2).mono ?_
  rintro e w3 ⟨g0, O, rfl, hD, hO, hb3⟩
  have HB2 : Hid (Below w.heap.size w w2) := Lib.hid (hb1.trans (hb2.mono hb1.size))
  have HB3 := Lib.hid hb3
  have HD := Lib.hid hD
  have HO := Lib.hid hO
  clear hb1 hb2 hb3 hD hO
  go_wp2_with fail
  refine (HPF.out w3).mono ?_
  rintro e w4 ⟨p0, P, rfl, hP, hb4⟩
  have HPA : Hid (PairAt w4 w.heap.size (O ++ P) g0 p0 S0) := Lib.hid (by
    have e2 := HB2.out.size
    have e3 := HB3.out.size
    refine ⟨O, P, rfl, HD.out.below hb4, hP.lower (by omega) HS0.out, fun b hb hm => ?_, fun b hb => Nat.le_trans e2 (HO.out b hb)⟩
    have := HD.out.lt hb
    have := (hP.mem hm).1
    omega)
  have HB4 : Hid (Below w.heap.size w w4) := Lib.hid ((HB2.out.trans (HB3.out.mono HB2.out.size)).trans (hb4.mono (Nat.le_trans HB2.out.size HB3.out.size)))
  clear hP hb4 HB3 HD HO HB2
  go_wp2_with fail
  go_loopw [7, 9, 10] (fun vd vp i wr => ∃ (j g p : Nat) (S : DS) (X : List Nat), j ≤ m ∧ vd = .pointer (some ⟨g, 0, none⟩) ∧ vp = .pointer (some ⟨p, 0, none⟩) ∧ i = .int .i64 j ∧ PairAt wr w.heap.size X g p S ∧ S.Fit j ∧ Below w.heap.size w wr) (fun _ _ i _ => m - (intOf i).toNat)
  case atStart => exact ⟨0, g0, p0, S0, _, Nat.zero_le _, rfl, rfl, rfl, HPA.out, HFR.out, HB4.out⟩
  case round =>
    obtain ⟨j, g, p, S, X, hj, rfl, rfl, rfl, hP, hfit, hbr⟩ := hrel
    have HP := Lib.hid hP
    have HFT := Lib.hid hfit
    have HBR := Lib.hid hbr
    have HJ : Hid (j ≤ 1000) := Lib.hid (by omega)
    clear hP hfit
    by_cases hlt : j < m
    · have hjl : j < ds.length := by rw [HM.out]; exact hlt
      obtain ⟨b, off, rfl, hbB, hbw, hc⟩ := HA.out (by omega)
      have HC := Lib.hid hc
      have HBW := Lib.hid hbw
      obtain ⟨d, hd⟩ : ∃ d, d = ds[j] := ⟨_, rfl⟩
      have hdj : ds[j]? = some d := by rw [hd]; exact List.getElem?_eq_getElem hjl
      have hdm : d ∈ ds := by rw [hd]; exact List.getElem_mem hjl
      have HDL := Lib.hid (HLT.out.2 d hdm)
      have HDF := Lib.hid (HF.out d hdm)
      have HAT : Hid (∀ W, Below w.heap.size w W → d.at_ W b (off + j * 5) ∧ d.In W w.heap.size) := Lib.hid (fun W hW => ⟨(hc j d hdj).1.keep (O := []) (Keep.of_below hW) hbw (by simp), (hc j d hdj).2.keep (O := []) (Keep.of_below hW) (by simp)⟩)
      obtain ⟨c0, c1, c2, c3, c4⟩ := (HAT.out wr hbr).1
      obtain ⟨kd, hkd⟩ : ∃ kd, kd = d.kind := ⟨_, rfl⟩
      obtain ⟨ad, had⟩ : ∃ ad, ad = d.a := ⟨_, rfl⟩
      have HKD := Lib.hid hkd
      have HAD := Lib.hid had
      rw [← hkd] at c0
      rw [← had] at c1
      have hjI : (j : Int) < (m : Int) := by omega
      have HJM := Lib.hid hlt
      clear hc hbw hd hdj hjl hbr hkd had hlt
      by_cases h6 : kd = 6
      · subst h6
        have HTW := Lib.hid (two_twins HP.out HFT.out HJ.out)
        clear c2 c3 c4
        clear c1
        go_wp2_with fail
        refine HTW.out.mono ?_
        rintro e w5 ⟨g2, rfl, hT2⟩
        have HT2 := Lib.hid hT2
        clear hT2 c0
        go_wp2_with fail
        refine HT2.out.mono ?_
        rintro e w6 ⟨p2, rfl, hX, ⟨Y, hY, hYn⟩, hb6⟩
        have HX6 := Lib.hid hX
        have HY6 := Lib.hid hY
        have HXY : Hid (∀ b ∈ X, b ∉ Y) := Lib.hid (fun b hb hm => by
          have := (HP.out.mem hb).2
          have := hYn b hm
          omega)
        have HB6 : Hid (Below w.heap.size w w6) := Lib.hid (HBR.out.trans (hb6.mono HBR.out.size))
        obtain ⟨-, c1, -, -, -⟩ := (HAT.out w6 HB6.out).1
        rw [← HAD.out] at c1
        clear hX hY hYn hb6
        have hodd : oddI ad = true ∨ oddI ad = false := by cases oddI ad <;> simp
        rcases hodd with ho | ho
        · have ht := odd_and ho
          clear ho
          by_cases hnx : j + 1 < m
          · have hnl : j + 1 < ds.length := by rw [HM.out]; exact hnx
            obtain ⟨f, hf⟩ : ∃ f, f = ds[j + 1] := ⟨_, rfl⟩
            have hfj : ds[j + 1]? = some f := by rw [hf]; exact List.getElem?_eq_getElem hnl
            have hfm : f ∈ ds := by rw [hf]; exact List.getElem_mem hnl
            have HFL := Lib.hid (HLT.out.2 f hfm)
            have HFF := Lib.hid (HF.out f hfm)
            have hfat := (HC.out (j + 1) f hfj).1.keep (O := []) (Keep.of_below HB6.out) HBW.out (by simp)
            have HFI : Hid (f.In w6 w.heap.size) := Lib.hid ((HC.out (j + 1) f hfj).2.keep (O := []) (Keep.of_below HB6.out) (by simp))
            obtain ⟨y0, y1, y2, y3, y4⟩ := hfat
            obtain ⟨kf, hkf⟩ : ∃ kf, kf = f.kind := ⟨_, rfl⟩
            obtain ⟨af, haf⟩ : ∃ af, af = f.a := ⟨_, rfl⟩
            have HKF := Lib.hid hkf
            have HAF := Lib.hid haf
            rw [← hkf] at y0
            rw [← haf] at y1
            have hnI : (j : Int) + 1 < (m : Int) := by omega
            clear hf hfj hnl hkf haf
            by_cases hk6 : kf = 6
            · subst hk6
              have HS1 := Lib.hid (pair_same at_ HX6.out HFT.out)
              have HS2 : Hid (∀ w7, Below w6.heap.size w6 w7 → Calls Try.prog 11 #[.pointer (some ⟨g2, 0, none⟩), .pointer (some ⟨p2, 0, none⟩), .int .i64 at_] w7 fun e w' => e = .returned (.bool true) ∧ Below w7.heap.size w7 w') := Lib.hid (fun w7 hb => pair_same at_ (HY6.out.below hb) HFT.out)
              clear y1 y2 y3 y4
              go_wp2_with fail
              refine HS1.out.mono ?_
              rintro e w7 ⟨rfl, hb7⟩
              have HB7 := Lib.hid hb7
              clear hb7 y0 c1
              go_wp2_with fail
              refine (HS2.out w7 HB7.out).mono ?_
              rintro e w8 ⟨rfl, hb8⟩
              have HB8 : Hid (Below w6.heap.size w6 w8) := Lib.hid (HB7.out.trans (hb8.mono HB7.out.size))
              clear hb8
              go_wp2_with fail
              go_roundw
              case rel => exact ⟨j + 1, g2, p2, S, Y, Nat.le_of_lt hnx, rfl, rfl, by go_num, HY6.out.below HB8.out, HFT.out.mono (by omega), HB6.out.trans (HB8.out.mono HB6.out.size)⟩
              case measure => have := HJM.out; simp [intOf]; omega
            · have HAC := Lib.hid (pair_act f HX6.out HFT.out HJ.out HFI.out HFL.out)
              unfold OpD.cells at HAC
              rw [← HKF.out, ← HAF.out] at HAC
              have hk6b : (kf != 6) = true := bne_iff_ne.2 hk6
              go_wp2_with fail
              refine HAC.out.mono ?_
              rintro e w7 ⟨rfl, X7, hP7, hX7, hK7⟩
              have HP7 := Lib.hid hP7
              have HF7 : Hid ((S.act f).Fit (j + 1)) := Lib.hid (HFT.out.act HFL.out HFF.out.a.2)
              have HD7 : Hid (PairAt w7 w.heap.size Y g2 p2 S) := Lib.hid (HY6.out.far hK7 (fun b hb hm => HXY.out b hm hb) (fun b hb => (HX6.out.mem hb).1))
              have HB7 : Hid (Below w.heap.size w w7) := Lib.hid (HB6.out.trans (hK7.below (B := w.heap.size) (fun b hb => (HX6.out.mem hb).1) HB6.out.size))
              have HS1 := Lib.hid (pair_same at_ hP7 HF7.out)
              clear hP7 hX7 hK7 y0 y1 y2 y3 y4 c1
              go_wp2_with fail
              refine HS1.out.mono ?_
              rintro e w8 ⟨rfl, hb8⟩
              have HD8 : Hid (PairAt w8 w.heap.size Y g2 p2 S) := Lib.hid (HD7.out.below hb8)
              have HB8 : Hid (Below w.heap.size w w8) := Lib.hid (HB7.out.trans (hb8.mono HB7.out.size))
              have HS2 := Lib.hid (pair_same at_ HD8.out HFT.out)
              clear hb8
              go_wp2_with fail
              refine HS2.out.mono ?_
              rintro e w9 ⟨rfl, hb9⟩
              have HD9 : Hid (PairAt w9 w.heap.size Y g2 p2 S) := Lib.hid (HD8.out.below hb9)
              have HB9 : Hid (Below w.heap.size w w9) := Lib.hid (HB8.out.trans (hb9.mono HB8.out.size))
              clear hb9
              go_wp2_with fail
              go_roundw
              case rel => exact ⟨j + 1, g2, p2, S, Y, Nat.le_of_lt hnx, rfl, rfl, by go_num, HD9.out, HFT.out.mono (by omega), HB9.out⟩
              case measure => have := HJM.out; simp [intOf]; omega
          · have hnI : (m : Int) ≤ (j : Int) + 1 := by omega
            have HS1 := Lib.hid (pair_same at_ HX6.out HFT.out)
            have HS2 : Hid (∀ w7, Below w6.heap.size w6 w7 → Calls Try.prog 11 #[.pointer (some ⟨g2, 0, none⟩), .pointer (some ⟨p2, 0, none⟩), .int .i64 at_] w7 fun e w' => e = .returned (.bool true) ∧ Below w7.heap.size w7 w') := Lib.hid (fun w7 hb => pair_same at_ (HY6.out.below hb) HFT.out)
            go_wp2_with fail
            refine HS1.out.mono ?_
            rintro e w7 ⟨rfl, hb7⟩
            have HB7 := Lib.hid hb7
            clear hb7 c1
            go_wp2_with fail
            refine (HS2.out w7 HB7.out).mono ?_
            rintro e w8 ⟨rfl, hb8⟩
            have HB8 : Hid (Below w6.heap.size w6 w8) := Lib.hid (HB7.out.trans (hb8.mono HB7.out.size))
            have hjn : j + 1 ≤ m := HJM.out
            clear hb8
            go_wp2_with fail
            go_roundw
            case rel => exact ⟨j + 1, g2, p2, S, Y, hjn, rfl, rfl, by go_num, HY6.out.below HB8.out, HFT.out.mono (by omega), HB6.out.trans (HB8.out.mono HB6.out.size)⟩
            case measure => have := HJM.out; simp [intOf]; omega
        · have ht := even_and ho
          clear ho
          by_cases hnx : j + 1 < m
          · have hnl : j + 1 < ds.length := by rw [HM.out]; exact hnx
            obtain ⟨f, hf⟩ : ∃ f, f = ds[j + 1] := ⟨_, rfl⟩
            have hfj : ds[j + 1]? = some f := by rw [hf]; exact List.getElem?_eq_getElem hnl
            have hfm : f ∈ ds := by rw [hf]; exact List.getElem_mem hnl
            have HFL := Lib.hid (HLT.out.2 f hfm)
            have HFF := Lib.hid (HF.out f hfm)
            have hfat := (HC.out (j + 1) f hfj).1.keep (O := []) (Keep.of_below HB6.out) HBW.out (by simp)
            have HFI : Hid (f.In w6 w.heap.size) := Lib.hid ((HC.out (j + 1) f hfj).2.keep (O := []) (Keep.of_below HB6.out) (by simp))
            obtain ⟨y0, y1, y2, y3, y4⟩ := hfat
            obtain ⟨kf, hkf⟩ : ∃ kf, kf = f.kind := ⟨_, rfl⟩
            obtain ⟨af, haf⟩ : ∃ af, af = f.a := ⟨_, rfl⟩
            have HKF := Lib.hid hkf
            have HAF := Lib.hid haf
            rw [← hkf] at y0
            rw [← haf] at y1
            have hnI : (j : Int) + 1 < (m : Int) := by omega
            clear hf hfj hnl hkf haf
            by_cases hk6 : kf = 6
            · subst hk6
              have HS1 := Lib.hid (pair_same at_ HY6.out HFT.out)
              have HS2 : Hid (∀ w7, Below w6.heap.size w6 w7 → Calls Try.prog 11 #[.pointer (some ⟨g, 0, none⟩), .pointer (some ⟨p, 0, none⟩), .int .i64 at_] w7 fun e w' => e = .returned (.bool true) ∧ Below w7.heap.size w7 w') := Lib.hid (fun w7 hb => pair_same at_ (HX6.out.below hb) HFT.out)
              clear y1 y2 y3 y4
              go_wp2_with fail
              refine HS1.out.mono ?_
              rintro e w7 ⟨rfl, hb7⟩
              have HB7 := Lib.hid hb7
              clear hb7 y0 c1
              go_wp2_with fail
              refine (HS2.out w7 HB7.out).mono ?_
              rintro e w8 ⟨rfl, hb8⟩
              have HB8 : Hid (Below w6.heap.size w6 w8) := Lib.hid (HB7.out.trans (hb8.mono HB7.out.size))
              clear hb8
              go_wp2_with fail
              go_roundw
              case rel => exact ⟨j + 1, g, p, S, X, Nat.le_of_lt hnx, rfl, rfl, by go_num, HX6.out.below HB8.out, HFT.out.mono (by omega), HB6.out.trans (HB8.out.mono HB6.out.size)⟩
              case measure => have := HJM.out; simp [intOf]; omega
            · have HAC := Lib.hid (pair_act f HY6.out HFT.out HJ.out HFI.out HFL.out)
              unfold OpD.cells at HAC
              rw [← HKF.out, ← HAF.out] at HAC
              have hk6b : (kf != 6) = true := bne_iff_ne.2 hk6
              go_wp2_with fail
              refine HAC.out.mono ?_
              rintro e w7 ⟨rfl, X7, hP7, hX7, hK7⟩
              have HP7 := Lib.hid hP7
              have HF7 : Hid ((S.act f).Fit (j + 1)) := Lib.hid (HFT.out.act HFL.out HFF.out.a.2)
              have HD7 : Hid (PairAt w7 w.heap.size X g p S) := Lib.hid (HX6.out.far hK7 (fun b hb hm => HXY.out b hb hm) (fun b hb => (HY6.out.mem hb).1))
              have HB7 : Hid (Below w.heap.size w w7) := Lib.hid (HB6.out.trans (hK7.below (B := w.heap.size) (fun b hb => (HY6.out.mem hb).1) HB6.out.size))
              have HS1 := Lib.hid (pair_same at_ hP7 HF7.out)
              clear hP7 hX7 hK7 y0 y1 y2 y3 y4 c1
              go_wp2_with fail
              refine HS1.out.mono ?_
              rintro e w8 ⟨rfl, hb8⟩
              have HD8 : Hid (PairAt w8 w.heap.size X g p S) := Lib.hid (HD7.out.below hb8)
              have HB8 : Hid (Below w.heap.size w w8) := Lib.hid (HB7.out.trans (hb8.mono HB7.out.size))
              have HS2 := Lib.hid (pair_same at_ HD8.out HFT.out)
              clear hb8
              go_wp2_with fail
              refine HS2.out.mono ?_
              rintro e w9 ⟨rfl, hb9⟩
              have HD9 : Hid (PairAt w9 w.heap.size X g p S) := Lib.hid (HD8.out.below hb9)
              have HB9 : Hid (Below w.heap.size w w9) := Lib.hid (HB8.out.trans (hb9.mono HB8.out.size))
              clear hb9
              go_wp2_with fail
              go_roundw
              case rel => exact ⟨j + 1, g, p, S, X, Nat.le_of_lt hnx, rfl, rfl, by go_num, HD9.out, HFT.out.mono (by omega), HB9.out⟩
              case measure => have := HJM.out; simp [intOf]; omega
          · have hnI : (m : Int) ≤ (j : Int) + 1 := by omega
            have HS1 := Lib.hid (pair_same at_ HY6.out HFT.out)
            have HS2 : Hid (∀ w7, Below w6.heap.size w6 w7 → Calls Try.prog 11 #[.pointer (some ⟨g, 0, none⟩), .pointer (some ⟨p, 0, none⟩), .int .i64 at_] w7 fun e w' => e = .returned (.bool true) ∧ Below w7.heap.size w7 w') := Lib.hid (fun w7 hb => pair_same at_ (HX6.out.below hb) HFT.out)
            go_wp2_with fail
            refine HS1.out.mono ?_
            rintro e w7 ⟨rfl, hb7⟩
            have HB7 := Lib.hid hb7
            clear hb7 c1
            go_wp2_with fail
            refine (HS2.out w7 HB7.out).mono ?_
            rintro e w8 ⟨rfl, hb8⟩
            have HB8 : Hid (Below w6.heap.size w6 w8) := Lib.hid (HB7.out.trans (hb8.mono HB7.out.size))
            have hjn : j + 1 ≤ m := HJM.out
            clear hb8
            go_wp2_with fail
            go_roundw
            case rel => exact ⟨j + 1, g, p, S, X, hjn, rfl, rfl, by go_num, HX6.out.below HB8.out, HFT.out.mono (by omega), HB6.out.trans (HB8.out.mono HB6.out.size)⟩
            case measure => have := HJM.out; simp [intOf]; omega
      · have HAC := Lib.hid (pair_act d HP.out HFT.out HJ.out (HAT.out wr HBR.out).2 HDL.out)
        unfold OpD.cells at HAC
        rw [← HKD.out, ← HAD.out] at HAC
        go_wp2_with fail
        refine HAC.out.mono ?_
        rintro e w5 ⟨rfl, X5, hP5, hX5, hK5⟩
        have HP5 := Lib.hid hP5
        have HF5 : Hid ((S.act d).Fit (j + 1)) := Lib.hid (HFT.out.act HDL.out HDF.out.a.2)
        have HB5 : Hid (Below w.heap.size w w5) := Lib.hid (HBR.out.trans (hK5.below (B := w.heap.size) (fun b hb => (HP.out.mem hb).1) HBR.out.size))
        have HSM := Lib.hid (pair_same at_ hP5 HF5.out)
        clear hP5 hX5 hK5 c0 c1 c2 c3 c4
        go_wp2_with fail
        refine HSM.out.mono ?_
        rintro e w6 ⟨rfl, hb6⟩
        have HP6 : Hid (PairAt w6 w.heap.size X5 g p (S.act d)) := Lib.hid (HP5.out.below hb6)
        have HB6 : Hid (Below w.heap.size w w6) := Lib.hid (HB5.out.trans (hb6.mono HB5.out.size))
        have hjn : j + 1 ≤ m := HJM.out
        clear hb6
        go_wp2_with fail
        go_roundw
        case rel => exact ⟨j + 1, g, p, S.act d, X5, hjn, rfl, rfl, by go_num, HP6.out, HF5.out, HB6.out⟩
        case measure => have := HJM.out; simp [intOf]; omega
    · go_wp2_with fail
      go_ret
      exact ⟨rfl, HBR.out⟩
end Go.Proofs.Ytpepabggpappgaa
