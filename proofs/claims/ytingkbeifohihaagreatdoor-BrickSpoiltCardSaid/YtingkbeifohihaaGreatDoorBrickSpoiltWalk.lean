/-
  BrickSpoilt, walked. No statement is proved here.
-/
import Derived.Test.YtingkbeifohihaaGreatDoorBrickTellsWalk
namespace Go.Proofs.YtingkbeifohihaaGreatDoor
open Go.RowKit
set_option maxRecDepth 100000
set_option maxHeartbeats 16000000
def lB (g : Int) : Int := if g = 1 then 1 else 2
def zM (g : Int) (b : ByteArray) : ByteArray := ⟨(pZ (lB g) (dE (lB g) [b])).toArray⟩
theorem Vo {g : Int} (h : 1 <= g /\ g <= 3) : lB g = cX g := by
 unfold lB cX
 by_cases h1 : g = 1
 ·rw [if_pos h1, if_pos h1]
 ·rw [if_neg h1, if_neg h1, if_pos (by omega)]
theorem Yg {g : Int} (h : 1 <= g /\ g <= 3) (b : ByteArray) : zM g b = rG g b := by unfold zM rG zO; rw [Vo h]
theorem Ce (g : Int) : lB g = 1 \/ lB g = 2 := by unfold lB; split <;> omega
theorem tX (g : Int) (b : ByteArray) : (dE (lB g) [b]).size <= 32 := by
 have h := nF (k := lB g) (by rcases Ce g with e | e <;> rw [e] <;> decide) [b]
 have := lK (lB g)
 omega
def Vp (g : Int) (vY : Bool) (s : ByteArray) : ByteArray := if vY = true /\ 33 <= s.size then zM g (s.extract 33 s.size) ++ s.extract 33 s.size else s
theorem Qr (g : Int) (vY : Bool) (s : ByteArray) : (Vp g vY s).size = s.size := by
 unfold Vp
 split
 ·rw [ByteArray.size_append, ByteArray.size_extract, show (zM g (s.extract 33 s.size)).size = 33 from tE (tX _ _)]
  omega
 ·rfl
theorem Yh {g tag : Int} {s : ByteArray} (h : Ra g tag s = true) : tag = 1 /\ s = tY g (s.extract 33 s.size) /\ iI (s.extract 33 s.size).size = true := by
 unfold Ra at h
 simp only [Bool.and_eq_true] at h
 obtain ⟨h1, h2, h3, h4⟩ := h
 have h1 := of_decide_eq_true h1
 have h2 := of_decide_eq_true h2
 have h4 := of_decide_eq_true h4
 refine ⟨h1, ?_, by rw [ByteArray.size_extract, Nat.min_self]; exact h3⟩
 unfold tY
 rw [<- h4]
 apply ByteArray.ext
 apply Array.toList_inj.1
 rw [ByteArray.data_append, Array.toList_append, ByteArray.data_extract, ByteArray.data_extract, Array.toList_extract, Array.toList_extract, List.extract_eq_take_drop, List.extract_eq_take_drop, Nat.sub_zero, List.drop_zero]
 rw [List.take_of_length_le (l := s.data.toList.drop 33) (by rw [List.length_drop, <- Lib.size_eq]; exact Nat.le_refl _), List.take_append_drop]
theorem Yi {w0 w : World} {g gd m N : Nat} {h : List ByteArray} {K : KD} {Ms : List MK} (s : BK w0 w g gd m N h K Ms []) (hm : m <= 900000) (gen tag : Int) (b : ByteArray) (hb : b.size <= 300) (hN : 10 <= N - 111) :
  Calls Tryz.prog 23 #[.pointer (some ⟨g, 0, none⟩), .int .i64 gen, .int .i64 tag, .string b] w fun e w' => (e = .returned (.tuple #[.int .i64 0, .int .i64 1]) /\ Below w0.heap.size w0 w') \/ ∃ K' ps, e = .returned (.tuple #[.int .i64 (ps.getD 0 0), .int .i64 0]) /\ (1 <= gen /\ gen <= 3) /\ BK w0 w' g gd (m + 40) N h K' Ms [⟨gen, tag, 1, b, ps⟩] := by
 have hc := s.on.cnt
 have hc : K.H.length = 2 := hc
 have hn : dP b.size <= 2 := by unfold dP; split <;> omega
 refine (xR s.st s.run hm gen tag b (by omega)).mono ?_
 intro e w' q
 cases q with
 | arg a1 a2 a3 => exact .inl ⟨a2, a3.st.at0⟩
 | long a1 a2 a3 a4 => omega
 | full a1 a2 a3 a4 a5 =>
   have := (xQ _ K 0 s.run.hok).1 a3
   omega
 | done a1 a2 K' t a3 a4 a5 a6 =>
   obtain ⟨ps, q1, rfl, q3⟩ := Bh s.run.ok.dim.2 s.run.hok s.run.ok.zero s.run.ok.one a1 a2 a3
   exact .inr ⟨K', ps, a4, ⟨q1.fit.1, q1.fit.2.1⟩, a5, a6, s.on.put q1 q3⟩
theorem Yj {w0 w : World} {g gd m N : Nat} {h : List ByteArray} {K : KD} {Ms : List MK} {gen tag : Int} {b : ByteArray} {ps : List Int} (s : BK w0 w g gd m N h K Ms [⟨gen, tag, 1, b, ps⟩]) (hbad : Ra gen tag b = false) :
  nK (ps.getD 0 0) /\ vZ (aI K (ps.getD 0 0)) = 25 /\ Vt (aI K (ps.getD 0 0)) = Ci 0 0 0 .empty .empty /\ (∀ by_, Qz K (ps.getD 0 0) by_ = ((0, 25), K)) /\ Yk K (ps.getD 0 0) = (25, K) := by
 have hon : aZ K.F gen tag 1 b ps := s.on.on ⟨gen, tag, 1, b, ps⟩ (by simp)
 have hr := hon.range _ (hon.mem (i := 0) (by have := hon.count; omega))
 have e2 : (aI K (ps.getD 0 0)).2 = 0 := by rw [gQ hon]
 have e : vZ (aI K (ps.getD 0 0)) = 25 := by
  unfold vZ
  rw [if_neg (by rw [e2]; simp), wE hon, if_neg (by rw [hbad]; simp)]
 refine ⟨by unfold nK; omega, e, ?_, fun by_ => ?_, ?_⟩
 ·unfold Vt; rw [if_pos (by rw [e]; decide)]
 ·unfold Qz; rw [if_pos (by rw [e]; decide), e]
 ·unfold Yk; rw [if_pos (by rw [e]; decide), e]
theorem Vq {w0 w : World} {g gd m N : Nat} {h : List ByteArray} {K : KD} {Ms : List MK} {gen tag : Int} {b : ByteArray} {ps : List Int} (s : BK w0 w g gd m N h K Ms [⟨gen, tag, 1, b, ps⟩]) (hok : Ra gen tag b = true) :
  ∃ p, ps.getD 0 0 = p /\ iI (b.extract 33 b.size).size = true /\ BK w0 w g gd m N h K Ms [BR gen 1 (b.extract 33 b.size) p] := by
 obtain ⟨rfl, hb, hf⟩ := Yh hok
 have hon : aZ K.F gen 1 1 b ps := s.on.on ⟨gen, 1, 1, b, ps⟩ (by simp)
 have hl := hon.len
 have hsz := rH ⟨hon.fit.1, hon.fit.2.1⟩ (b.extract 33 b.size)
 rw [<- hb] at hsz
 have hf2 := of_decide_eq_true hf
 rw [hsz, show dP (33 + (b.extract 33 b.size).size) = 1 by unfold dP; rw [if_neg (by omega)]; omega] at hl
 obtain ⟨p, rfl⟩ : ∃ p, ps = [p] := List.length_eq_one_iff.1 hl
 refine ⟨p, rfl, hf, ?_⟩
 unfold BR
 rw [<- hb]
 exact s
theorem Hh (gen tag : Int) (s : ByteArray) (vY : Bool) (w : World) (hgen : -9223372036854775808 <= gen /\ gen <= 9223372036854775807) (htag : -9223372036854775808 <= tag /\ tag <= 9223372036854775807) (hs : s.size <= 140737488351232) :
  Calls Tryz.prog 4 #[.int .i64 gen, .int .i64 tag, .string s, .bool vY] w fun e w' => e = .returned (.bool true) /\ Below w.heap.size w w' := by
 have HAL := Lib.hid lI
 by_cases hbig : 300 < s.size
 ·have hbI : (300 : Int) < (s.size : Int) := by omega
  clear hs hbig
  go_enter Tryz.func4, Tryz.ntmps4
  go_wp2_with fail
  refine (HAL.out _).mono ?_
  rintro e w1 ⟨rfl, hb1⟩
  go_wp2_with fail
  go_ret
  exact ⟨rfl, hb1⟩
 have hbI : ¬ (300 : Int) < (s.size : Int) := by omega
 have hs3 : s.size <= 300 := by omega
 have HFR : Hid (∀ w1, Below w.heap.size w w1 -> Calls Tryz.prog 8 #[.int .i64 150] w1 fun e w' => ∃ g gd K h, e = .returned (.pointer (some ⟨g, 0, none⟩)) /\ eK w w' g gd 1 150 K [] /\ iY 150 K h) := Lib.hid (fun w1 hb => lQ (N := 150) (by omega) w w1 hb)
 clear hs hbig
 go_enter Tryz.func4, Tryz.ntmps4
 go_wp2_with fail
 refine (HAL.out _).mono ?_
 rintro e w1 ⟨rfl, hb1⟩
 have HB1 := Lib.hid hb1
 clear hb1 HAL
 go_wp2_with fail
 refine (HFR.out _ HB1.out).mono ?_
 rintro e w3 ⟨g, gd, K, h, rfl, hs3', hf⟩
 have HK3 := Lib.hid (BK.fresh hs3' hf)
 clear hs3' hf HFR HB1
 obtain ⟨X, hX⟩ : ∃ X, X = Vp gen vY s := ⟨_, rfl⟩
 have HXE := Lib.hid hX
 have HXS : Hid (X.size = s.size) := Lib.hid (by rw [hX]; exact Qr _ _ _)
 obtain ⟨kd, hkd⟩ : ∃ kd, kd = lB gen := ⟨_, rfl⟩
 have HKD := Lib.hid hkd
 have hk01 : kd = 1 \/ kd = 2 := by rw [hkd]; exact Ce gen
 have HPRO : Hid (∀ (D : ByteArray) (k : Int) (w' : World), D.size <= 300 -> Calls Tryz.prog 16 #[.int .i64 k, .string D] w' fun e w'' => e = .returned (.agg #[.int .i64 k, .string (dE k [D])]) /\ Below w'.heap.size w' w'') := Lib.hid (fun D k w' hd => tA k D [D] w' (by omega) (eW D).symm)
 have HLPO : Hid (∀ (D : ByteArray) (w' : World), Calls Tryz.prog 17 #[.agg #[.int .i64 kd, .string (dE kd [D])]] w' fun e w'' => e = .returned (.string (zM gen D)) /\ Below w'.heap.size w' w'') := Lib.hid (fun D w' => by
  have := zL kd (dE kd [D]) w' (by omega) (by omega) (by rw [hkd]; exact tX _ _)
  unfold zM
  rw [<- hkd]
  exact this)
 clear hX hkd
 go_upto_region 6 with fail
 go_cut [35] from 30 to 36 (fun v wx => v = .bool (vY && decide (33 <= s.size)) /\ wx = w3)
 case first =>
  cases vY with
  | false =>
    go_wp2_with fail
    go_meet
    exact ⟨rfl, rfl⟩
  | true =>
    go_wp2_with fail
    go_meet
    refine ⟨congrArg Value.bool ?_, rfl⟩
    simp
    try omega
 case rest =>
 obtain ⟨w4, rfl⟩ : ∃ w4, w4 = wc := ⟨_, rfl⟩
 obtain ⟨rfl, hw4⟩ := hcut
 subst hw4
 go_upto_if 35 with fail
 go_cut [2] from 35 to 49 (fun v wx => v = .string X /\ Below w4.heap.size w4 wx)
 case first =>
  by_cases hc : vY = true /\ 33 <= s.size
  rotate_left
  ·have hcb : (vY && decide (33 <= s.size)) = false := by
    rcases Bool.eq_false_or_eq_true vY with h | h
    ·rw [h, decide_eq_false (fun h2 => hc ⟨h, h2⟩)]; rfl
    ·rw [h]; rfl
   have hxs : X = s := by rw [HXE.out]; unfold Vp; rw [if_neg hc]
   have HXX := Lib.hid hxs
   rw [hcb]
   clear hc hxs hcb
   go_wp2_with fail
   go_meet
   exact ⟨by rw [HXX.out], Below.refl _ _⟩
  have hcb : (vY && decide (33 <= s.size)) = true := by rw [hc.1, decide_eq_true hc.2]; rfl
  rw [hcb]
  obtain ⟨D, hD⟩ : ∃ D, D = s.extract 33 s.size := ⟨_, rfl⟩
  have hds : D.size <= 300 := by rw [hD, ByteArray.size_extract]; omega
  have hsl : ∀ w, (Instr.slice 9 (.string s) (some (.int .i64 33)) none none).run Tryz.prog w = .ok (.string D) w := fun w => kN w s D 33 hc.2 hD.symm
  have HXX : Hid (X = zM gen D ++ D) := Lib.hid (by rw [HXE.out, hD]; unfold Vp; rw [if_pos hc])
  obtain ⟨P, hP⟩ : ∃ P, P = dE kd [D] := ⟨_, rfl⟩
  have HPE := Lib.hid hP
  obtain ⟨L, hL⟩ : ∃ L, L = zM gen D := ⟨_, rfl⟩
  have HLE := Lib.hid hL
  have HLP : Hid (∀ w', Calls Tryz.prog 17 #[.agg #[.int .i64 kd, .string P]] w' fun e w'' => e = .returned (.string L) /\ Below w'.heap.size w' w'') := Lib.hid (fun w' => by rw [hP, hL]; exact HLPO.out D w')
  have HLJ : Hid (¬ (9223372036854775807 < L.size + D.size)) := Lib.hid (by rw [hL, show (zM gen D).size = 33 from tE (tX _ _)]; omega)
  have HP2 := Lib.hid (fun w' => HPRO.out D 2 w' hds)
  have HP1 := Lib.hid (fun w' => HPRO.out D 1 w' hds)
  have HSL := Lib.hid hsl
  clear hcb hc hD hP hL hds
  go_wp2_with fail
  refine (HP2.out _).mono ?_
  rintro e w5 ⟨rfl, hb5⟩
  go_upto_if 40 with fail
  obtain ⟨gp, hgp⟩ : ∃ gp, gp = w5.heap.size := ⟨_, rfl⟩
  obtain ⟨w5', hw5⟩ : ∃ w', w' = w5.alloc (.cells #[.int .i64 2, .string (dE 2 [D])] 36) := ⟨_, rfl⟩
  have KP5 : Hid (aG w5' gp 36 #[.int .i64 2, .string (dE 2 [D])]) := Lib.hid (by rw [hw5, hgp]; exact aG.new w5 _ _)
  have HB5 : Hid (Below w4.heap.size w4 w5') := Lib.hid (by rw [hw5]; exact hb5.alloc hb5.size _)
  have HGP : Hid (w4.heap.size <= gp) := Lib.hid (by rw [hgp]; exact hb5.size)
  rw [<- hw5, <- hgp]
  clear hw5 hgp hb5 hsl
  go_cut [] from 40 to 44 (fun wx => aG wx gp 36 #[.int .i64 kd, .string P] /\ Below w4.heap.size w4 wx)
  case first =>
   have hsl := HSL.out
   by_cases h1 : gen = 1
   ·have e1 : kd = 1 := by rw [HKD.out]; unfold lB; rw [if_pos h1]
    have HE1 := Lib.hid e1
    subst h1
    clear e1
    go_wp2_with fail
    refine (HP1.out _).mono ?_
    rintro e w6 ⟨rfl, hb6⟩
    have KP6 := Lib.hid (KP5.out.below hb6 KP5.out.lt)
    have HB6 := Lib.hid (HB5.out.trans (hb6.mono HB5.out.size))
    have c0 : w6.cell? ⟨gp, 0, none⟩ = some (.int .i64 2) := KP6.out.cell 0
    have c1 : w6.cell? ⟨gp, 1, none⟩ = some (.string (dE 2 [D])) := KP6.out.cell 1
    have f0 := KP6.out.frozen 0
    have f1 := KP6.out.frozen 1
    clear hb6
    go_wp2_with fail
    go_meet
    refine ⟨?_, (HB6.out.setCell HGP.out _).setCell HGP.out _⟩
    rw [HPE.out, HE1.out]
    exact (KP6.out.put 0 (.int .i64 1)).put 1 (.string (dE 1 [D]))
   ·have e1 : kd = 2 := by rw [HKD.out]; unfold lB; rw [if_neg h1]
    have e2 : (gen == 1) = false := beq_eq_false_iff_ne.2 h1
    have HE1 := Lib.hid e1
    clear e1 h1
    go_wp2_with fail
    go_meet
    refine ⟨?_, HB5.out⟩
    rw [HPE.out, HE1.out]
    exact KP5.out
  case rest =>
  obtain ⟨w6, rfl⟩ : ∃ w6, w6 = wc := ⟨_, rfl⟩
  have KP6 := Lib.hid hcut.1
  have HB6 := Lib.hid hcut.2
  clear hcut KP5 HB5
  have HPK : Hid (∀ w', Below w6.heap.size w6 w' -> w'.cell? ⟨gp, 0, none⟩ = some (.int .i64 kd) /\ w'.cell? ⟨gp, 1, none⟩ = some (.string P)) := Lib.hid (fun w' hw => by
   have k := KP6.out.below hw KP6.out.lt
   exact ⟨k.cell 0, k.cell 1⟩)
  go_upto_region 10 with fail
  refine cE (Below w6.heap.size w6) (by kernel_rfl) (by kernel_rfl) ⟨rfl, rfl, rfl, Nat.le_refl _, fun _ _ => rfl⟩ ?_
  refine aE (fun w' hw K hK => by obtain ⟨c0, c1⟩ := HPK.out w' hw; go_simp; exact hK) ⟨_, rfl, Nat.le_of_ble_eq_true rfl⟩ ⟨_, Below.refl _ _⟩ ?_
  refine eI (fun w' hw => (HLP.out w').mono fun e w'' ⟨he, hb⟩ => ⟨he, hw.trans (hb.mono hw.size)⟩) (by go_simp) (fun w' hw => by go_simp) ?_
  simp only [Act.put, List.setIfInBounds_toArray, List.set_cons_succ, List.set_cons_zero]
  refine aE (fun w' hw K hK => by go_simp; exact hK) ⟨_, rfl, Nat.le_of_ble_eq_true rfl⟩ ⟨_, Below.refl _ _⟩ ?_
  refine aE (fun w' hw K hK => by have h1 := HSL.out; go_simp; exact hK) ⟨_, rfl, Nat.le_of_ble_eq_true rfl⟩ ⟨_, Below.refl _ _⟩ ?_
  refine aE (fun w' hw K hK => by have h1 := HLJ.out; go_simp; exact hK) ⟨_, rfl, Nat.le_of_ble_eq_true rfl⟩ ⟨_, Below.refl _ _⟩ ?_
  refine aE (fun w' hw K hK => by go_simp; exact hK) ⟨_, rfl, Nat.le_of_ble_eq_true rfl⟩ ⟨_, Below.refl _ _⟩ ?_
  intro w7 hb7
  go_wp2_with fail
  go_meet
  exact ⟨by rw [HXX.out, HLE.out], HB6.out.trans (hb7.mono HB6.out.size)⟩
 case rest =>
 obtain ⟨w5, rfl⟩ : ∃ w5, w5 = wc := ⟨_, rfl⟩
 obtain ⟨rfl, hb5⟩ := hcut
 have HK5 := Lib.hid (HK3.out.below hb5)
 have HPU := Lib.hid (Yi HK5.out (by omega) gen tag X (by rw [HXS.out]; exact hs3) (by decide))
 clear hb5 HK3
 go_wp2_with fail
 refine HPU.out.mono ?_
 rintro e w6 (⟨rfl, hb6⟩ | ⟨K6, ps, rfl, hg, hk6⟩)
 ·have HB6 := Lib.hid hb6
  clear hb6 HPU
  go_wp2_with fail
  go_ret
  exact ⟨rfl, HB6.out⟩
 have HK6 := Lib.hid hk6
 have HG := Lib.hid hg
 obtain ⟨t, ht⟩ : ∃ t, t = ps.getD 0 0 := ⟨_, rfl⟩
 have HT := Lib.hid ht
 rw [<- ht]
 clear hk6 HPU ht HK5
 go_upto_if 62 with fail
 go_cut [13] from 61 to 63 (fun v wx => v = .int .i64 kd /\ wx = w6)
 case first =>
  by_cases h1 : gen = 1
  ·have e1 : kd = 1 := by rw [HKD.out]; unfold lB; rw [if_pos h1]
   subst h1
   go_wp2_with fail
   go_meet
   exact ⟨by rw [e1], rfl⟩
  ·have e1 : kd = 2 := by rw [HKD.out]; unfold lB; rw [if_neg h1]
   have e2 : (gen == 1) = false := beq_eq_false_iff_ne.2 h1
   go_wp2_with fail
   go_meet
   exact ⟨by rw [e1], rfl⟩
 case rest =>
 obtain ⟨w8, rfl⟩ : ∃ w8, w8 = wc := ⟨_, rfl⟩
 obtain ⟨rfl, hw8⟩ := hcut
 subst hw8
 obtain ⟨gd', hgd⟩ : ∃ gd', gd' = Ra gen tag X := ⟨_, rfl⟩
 have HGD : Hid (gd' = (decide (tag = 1) && (decide (33 <= X.size) && (iI (X.size - 33) && decide (X.extract 0 33 = zM gen (X.extract 33 X.size)))))) := Lib.hid (by rw [hgd]; unfold Ra; rw [Yg HG.out])
 have HGO := Lib.hid hgd
 have hxs : X.size <= 300 := by rw [HXS.out]; exact hs3
 obtain ⟨n, hn⟩ : ∃ n, n = X.size := ⟨_, rfl⟩
 have hnI : (X.size : Int) = (n : Int) := by rw [hn]
 have HN := Lib.hid hn
 obtain ⟨D, hD⟩ : ∃ D, D = X.extract 33 X.size := ⟨_, rfl⟩
 have HD := Lib.hid hD
 have HSR0 : Hid (33 <= n -> ∀ w, (Instr.slice 9 (.string X) (some (.int .i64 33)) none none).run Tryz.prog w = .ok (.string D) w) := Lib.hid (fun h w => kN w X D 33 (by rw [<- hn]; exact h) hD.symm)
 clear hgd hn hD
 go_upto_region 17 with fail
 go_cut [14] from 63 to 85 (fun v wx => v = .bool gd' /\ Below w8.heap.size w8 wx)
 case first =>
  by_cases ht1 : tag = 1
  rotate_left
  ·have e1 : gd' = false := by rw [HGD.out, decide_eq_false ht1]; rfl
   have z1 : (tag == 1) = false := by simpa using ht1
   have HE1 := Lib.hid e1
   clear e1 ht1
   refine cE (Below w8.heap.size w8) (by kernel_rfl) (by kernel_rfl) ⟨rfl, rfl, rfl, Nat.le_refl _, fun _ _ => rfl⟩ ?_
   iterate 23 refine aE (fun w' hw K hK => by go_simp; exact hK) ⟨_, rfl, Nat.le_of_ble_eq_true rfl⟩ ⟨_, Below.refl _ _⟩ ?_
   intro wb hb
   go_wp2_with fail
   go_meet
   exact ⟨by rw [HE1.out], hb⟩
  subst ht1
  by_cases h33 : 33 < n
  rotate_left
  ·have e1 : gd' = false := by
    rw [HGD.out, <- HN.out]
    by_cases h : n = 33
    ·rw [h, show iI (33 - 33) = false from rfl]; simp
    ·rw [decide_eq_false (p := 33 <= n) (by omega)]; simp
   have z1 : ¬ (33 : Int) < (n : Int) := by omega
   have HE1 := Lib.hid e1
   clear e1 h33
   refine cE (Below w8.heap.size w8) (by kernel_rfl) (by kernel_rfl) ⟨rfl, rfl, rfl, Nat.le_refl _, fun _ _ => rfl⟩ ?_
   iterate 23 refine aE (fun w' hw K hK => by go_simp; exact hK) ⟨_, rfl, Nat.le_of_ble_eq_true rfl⟩ ⟨_, Below.refl _ _⟩ ?_
   intro wb hb
   go_wp2_with fail
   go_meet
   exact ⟨by rw [HE1.out], hb⟩
  have z1 : (33 : Int) < (n : Int) := by omega
  by_cases h161 : n <= 161
  rotate_left
  ·have e1 : gd' = false := by
    rw [HGD.out, <- HN.out, show iI (n - 33) = false from decide_eq_false (by omega)]
    simp
   have z2 : ¬ (n : Int) <= 161 := by omega
   have HE1 := Lib.hid e1
   clear e1 h161
   refine cE (Below w8.heap.size w8) (by kernel_rfl) (by kernel_rfl) ⟨rfl, rfl, rfl, Nat.le_refl _, fun _ _ => rfl⟩ ?_
   iterate 23 refine aE (fun w' hw K hK => by go_simp; exact hK) ⟨_, rfl, Nat.le_of_ble_eq_true rfl⟩ ⟨_, Below.refl _ _⟩ ?_
   intro wb hb
   go_wp2_with fail
   go_meet
   exact ⟨by rw [HE1.out], hb⟩
  ·have z2 : (n : Int) <= 161 := by omega
   have hds : D.size <= 300 := by rw [HD.out, ByteArray.size_extract]; omega
   obtain ⟨H0, hH0⟩ : ∃ H0, H0 = X.extract 0 33 := ⟨_, rfl⟩
   obtain ⟨L, hL⟩ : ∃ L, L = zM gen D := ⟨_, rfl⟩
   obtain ⟨P, hP⟩ : ∃ P, P = dE kd [D] := ⟨_, rfl⟩
   have HCMP : Hid ((H0.toList == L.toList) = gd') := Lib.hid (by
    rw [fC, HGD.out, <- HN.out, show iI (n - 33) = true from decide_eq_true (by omega), decide_eq_true (p := 33 <= n) (by omega), HN.out, <- HD.out, <- hH0, <- hL]
    simp)
   have HSH : Hid (∀ w, (Instr.slice 9 (.string X) none (some (.int .i64 33)) none).run Tryz.prog w = .ok (.string H0) w) := Lib.hid (fun w => nC w X H0 33 (by rw [<- HN.out]; omega) hH0.symm)
   have HSR := Lib.hid (HSR0.out (by omega))
   have HPR : Hid (∀ w', Calls Tryz.prog 16 #[.int .i64 kd, .string D] w' fun e w'' => e = .returned (.agg #[.int .i64 kd, .string P]) /\ Below w'.heap.size w' w'') := Lib.hid (fun w' => by rw [hP]; exact HPRO.out D kd w' hds)
   have HLP : Hid (∀ w', Calls Tryz.prog 17 #[.agg #[.int .i64 kd, .string P]] w' fun e w'' => e = .returned (.string L) /\ Below w'.heap.size w' w'') := Lib.hid (fun w' => by rw [hP, hL]; exact HLPO.out D w')
   have HZ1 := Lib.hid z1
   have HZ2 := Lib.hid z2
   clear hH0 hL hP hds h33 h161
   refine cE (Below w8.heap.size w8) (by kernel_rfl) (by kernel_rfl) ⟨rfl, rfl, rfl, Nat.le_refl _, fun _ _ => rfl⟩ ?_
   iterate 5 refine aE (fun w' hw K hK => by go_simp; exact hK) ⟨_, rfl, Nat.le_of_ble_eq_true rfl⟩ ⟨_, Below.refl _ _⟩ ?_
   refine aE (fun w' hw K hK => by have h1 := HZ1.out; go_simp; exact hK) ⟨_, rfl, Nat.le_of_ble_eq_true rfl⟩ ⟨_, Below.refl _ _⟩ ?_
   iterate 4 refine aE (fun w' hw K hK => by go_simp; exact hK) ⟨_, rfl, Nat.le_of_ble_eq_true rfl⟩ ⟨_, Below.refl _ _⟩ ?_
   refine aE (fun w' hw K hK => by have h1 := HZ2.out; go_simp; exact hK) ⟨_, rfl, Nat.le_of_ble_eq_true rfl⟩ ⟨_, Below.refl _ _⟩ ?_
   iterate 3 refine aE (fun w' hw K hK => by go_simp; exact hK) ⟨_, rfl, Nat.le_of_ble_eq_true rfl⟩ ⟨_, Below.refl _ _⟩ ?_
   refine aE (fun w' hw K hK => by have h1 := HSH.out; go_simp; exact hK) ⟨_, rfl, Nat.le_of_ble_eq_true rfl⟩ ⟨_, Below.refl _ _⟩ ?_
   iterate 2 refine aE (fun w' hw K hK => by go_simp; exact hK) ⟨_, rfl, Nat.le_of_ble_eq_true rfl⟩ ⟨_, Below.refl _ _⟩ ?_
   refine aE (fun w' hw K hK => by have h1 := HSR.out; go_simp; exact hK) ⟨_, rfl, Nat.le_of_ble_eq_true rfl⟩ ⟨_, Below.refl _ _⟩ ?_
   refine eI (fun w' hw => (HPR.out w').mono fun e w'' ⟨he, hb⟩ => ⟨he, hw.trans (hb.mono hw.size)⟩) (by go_simp) (fun w' hw => by go_simp) ?_
   simp only [Act.put, List.setIfInBounds_toArray, List.set_cons_succ, List.set_cons_zero]
   refine eI (fun w' hw => (HLP.out w').mono fun e w'' ⟨he, hb⟩ => ⟨he, hw.trans (hb.mono hw.size)⟩) (by go_simp) (fun w' hw => by go_simp) ?_
   simp only [Act.put, List.setIfInBounds_toArray, List.set_cons_succ, List.set_cons_zero]
   refine aE (fun w' hw K hK => by have h1 := HCMP.out; go_simp; exact hK) ⟨_, rfl, Nat.le_of_ble_eq_true rfl⟩ ⟨_, Below.refl _ _⟩ ?_
   iterate 2 refine aE (fun w' hw K hK => by go_simp; exact hK) ⟨_, rfl, Nat.le_of_ble_eq_true rfl⟩ ⟨_, Below.refl _ _⟩ ?_
   intro wb hb
   go_wp2_with fail
   go_meet
   exact ⟨rfl, hb⟩
 case rest =>
 obtain ⟨w9, rfl⟩ : ∃ w9, w9 = wc := ⟨_, rfl⟩
 obtain ⟨rfl, hb9⟩ := hcut
 have HK9 := Lib.hid (HK6.out.below hb9)
 clear hb9 HK6
 cases gd' with
 | true =>
   obtain ⟨p, hp, hf, hkg⟩ := Vq HK9.out HGO.out.symm
   rw [<- HD.out] at hf hkg
   obtain rfl : t = p := by rw [HT.out]; exact hp
   have h33 : 33 <= n := by
    have := (of_decide_eq_true hf).1
    rw [HD.out, ByteArray.size_extract, <- HN.out] at this
    omega
   have HSR := Lib.hid (HSR0.out h33)
   have hgt := hkg.get (gen := gen) (refs := 1) (b := D) (p := t) (by simp) hf
   obtain ⟨kk, hkk⟩ : ∃ kk, kk = cX gen := ⟨_, rfl⟩
   obtain ⟨S, hS⟩ : ∃ S, S = zO gen D := ⟨_, rfl⟩
   rw [<- hkk, <- hS] at hgt
   unfold Ci at hgt
   have HGT := Lib.hid hgt
   have HKG := Lib.hid hkg
   have HF := Lib.hid hf
   clear hp hgt hkg hf hkk hS HK9 h33
   go_wp2_with fail
   refine HGT.out.mono ?_
   rintro e wa ⟨rfl, hba⟩
   go_upto_region 19 with fail
   obtain ⟨gb, hgb⟩ : ∃ gb, gb = wa.heap.size := ⟨_, rfl⟩
   obtain ⟨wb, hwb⟩ : ∃ wb, wb = wa.alloc (.cells #[.int .i64 gen, .int .i64 1, .int .i64 kk, .string S, .string D] 38) := ⟨_, rfl⟩
   have hbb : Below w9.heap.size w9 wb := by rw [hwb]; exact hba.alloc hba.size _
   have KBb : Hid (aG wb gb 38 #[.int .i64 gen, .int .i64 1, .int .i64 kk, .string S, .string D]) := Lib.hid (by rw [hwb, hgb]; exact aG.new wa _ _)
   have HKb := Lib.hid (BK.mk (HKG.out.st.hold hbb (by rw [hgb]; exact hba.size) KBb.out) HKG.out.run HKG.out.on)
   have HUS := Lib.hid (HKb.out.use_one (by_ := 1) (by omega) (by unfold nK; omega) HF.out)
   rw [<- hwb, <- hgb]
   clear hwb hgb hbb hba HGT HKG
   go_wp2_with fail
   refine HUS.out.mono ?_
   rintro e wc3 ⟨n3, er3, r3, K3, rfl, hk3, -, hyes⟩
   obtain ⟨rfl, rfl, rfl⟩ := hyes (by omega)
   have HK3 := Lib.hid hk3
   have KB3 : Hid (aG wc3 gb 38 #[.int .i64 gen, .int .i64 1, .int .i64 kk, .string S, .string D]) := Lib.hid (hk3.st.held (by simp))
   have HBK : Hid (∀ w', Below wc3.heap.size wc3 w' -> aG w' gb _ _) := Lib.hid (fun w' hw => KB3.out.below hw KB3.out.lt)
   have HDE : Hid ((D.toList == D.toList) = true) := Lib.hid (by rw [fC]; exact decide_eq_true rfl)
   clear hk3 hyes HUS HKb KBb KB3
   go_upto_region 21 with fail
   refine cE (Below wc3.heap.size wc3) (by kernel_rfl) (by kernel_rfl) ⟨rfl, rfl, rfl, Nat.le_refl _, fun _ _ => rfl⟩ ?_
   iterate 8 refine aE (fun w' hw K hK => by go_simp; exact hK) ⟨_, rfl, Nat.le_of_ble_eq_true rfl⟩ ⟨_, Below.refl _ _⟩ ?_
   refine aE (fun w' hw K hK => by obtain ⟨⟨c0, c1, c2, c3, c4⟩, -⟩ := oB (HBK.out w' hw); go_simp; exact hK) ⟨_, rfl, Nat.le_of_ble_eq_true rfl⟩ ⟨_, Below.refl _ _⟩ ?_
   refine aE (fun w' hw K hK => by go_simp; exact hK) ⟨_, rfl, Nat.le_of_ble_eq_true rfl⟩ ⟨_, Below.refl _ _⟩ ?_
   refine aE (fun w' hw K hK => by have h1 := HSR.out; go_simp; exact hK) ⟨_, rfl, Nat.le_of_ble_eq_true rfl⟩ ⟨_, Below.refl _ _⟩ ?_
   refine aE (fun w' hw K hK => by have h1 := HDE.out; go_simp; exact hK) ⟨_, rfl, Nat.le_of_ble_eq_true rfl⟩ ⟨_, Below.refl _ _⟩ ?_
   iterate 2 refine aE (fun w' hw K hK => by go_simp; exact hK) ⟨_, rfl, Nat.le_of_ble_eq_true rfl⟩ ⟨_, Below.refl _ _⟩ ?_
   intro wd hbd
   have HBZ := Lib.hid (HK3.out.base.trans (hbd.mono HK3.out.base.size))
   clear hbd
   go_wp2_with fail
   go_ret
   exact ⟨rfl, HBZ.out⟩
 | false =>
   obtain ⟨hI, he, hr, hu, hd⟩ := Yj HK9.out HGO.out.symm
   rw [<- HT.out] at hI he hr hu hd
   have hgt := rF HK9.out.st.st HK9.out.run hI
   rw [he, hr] at hgt
   unfold Ci at hgt
   have HGT := Lib.hid hgt
   have HUS : Hid (∀ w' Ms, eK w w' g gd (1 + 40) 150 K6 Ms -> Calls Tryz.prog 19 #[.pointer (some ⟨g, 0, none⟩), .int .i64 t, .int .i64 1] w' fun e w'' => e = .returned (.tuple #[.int .i64 0, .int .i64 25]) /\ eK w w'' g gd (1 + 40 + 1) 150 K6 Ms) := Lib.hid (fun w' Ms hs => by
    have := wM hs HK9.out.run (by omega) hI (by_ := 1) (by unfold nK; omega)
    rw [hu 1] at this
    exact this)
   have HDR : Hid (∀ w' Ms, eK w w' g gd (1 + 40 + 1) 150 K6 Ms -> Calls Tryz.prog 20 #[.pointer (some ⟨g, 0, none⟩), .int .i64 t] w' fun e w'' => e = .returned (.int .i64 25) /\ eK w w'' g gd (1 + 40 + 1) 150 K6 Ms) := Lib.hid (fun w' Ms hs => by
    have := Ae hs HK9.out.run hI
    rw [hd] at this
    exact this)
   have HS9 := Lib.hid HK9.out.st
   clear hI he hr hu hd hgt HK9
   go_wp2_with fail
   refine HGT.out.mono ?_
   rintro e wa ⟨rfl, hba⟩
   go_upto_region 19 with fail
   obtain ⟨gb, hgb⟩ : ∃ gb, gb = wa.heap.size := ⟨_, rfl⟩
   obtain ⟨wb, hwb⟩ : ∃ wb, wb = wa.alloc (.cells #[.int .i64 0, .int .i64 0, .int .i64 0, .string .empty, .string .empty] 38) := ⟨_, rfl⟩
   have hbb : Below w9.heap.size w9 wb := by rw [hwb]; exact hba.alloc hba.size _
   have KBb : Hid (aG wb gb 38 #[.int .i64 0, .int .i64 0, .int .i64 0, .string .empty, .string .empty]) := Lib.hid (by rw [hwb, hgb]; exact aG.new wa _ _)
   have HSb := Lib.hid (HS9.out.hold hbb (by rw [hgb]; exact hba.size) KBb.out)
   have HUS2 := Lib.hid (HUS.out _ _ HSb.out)
   rw [<- hwb, <- hgb]
   clear hwb hgb hbb hba HGT HUS
   go_wp2_with fail
   refine HUS2.out.mono ?_
   rintro e wc3 ⟨rfl, hs3'⟩
   have HS3 := Lib.hid hs3'
   obtain ⟨⟨c0, c1, c2, c3, c4⟩, -⟩ := oB (show aG wc3 gb 38 #[.int .i64 0, .int .i64 0, .int .i64 0, .string .empty, .string .empty] from hs3'.held (by simp))
   have HDR2 := Lib.hid (HDR.out _ _ hs3')
   clear hs3' HUS2 HSb KBb
   go_wp2_with fail
   refine HDR2.out.mono ?_
   rintro e wd ⟨rfl, hsd⟩
   have HSD := Lib.hid hsd
   clear hsd
   go_wp2_with fail
   go_ret
   exact ⟨rfl, HSD.out.st.at0⟩
end Go.Proofs.YtingkbeifohihaaGreatDoor
