/-
  BrickTells, walked. No statement is proved here.
-/
import Derived.Test.YtingkbeifohihaaGreatDoorChainSteps
import Derived.Test.YtingkbeifohihaaGreatDoorHeadNextOwn
namespace Go.Proofs.YtingkbeifohihaaGreatDoor
open Go.RowKit
set_option maxRecDepth 100000
set_option maxHeartbeats 16000000
theorem Em.same {w w' : World} {B g cap : Nat} {xs : List ByteArray} (h : Em w B g cap xs) (e : w'.heap[g]? = w.heap[g]?) : Em w' B g cap xs := by
 obtain ⟨h0, h1, h2, h3, h4⟩ := h
 refine ⟨h0, (Array.getElem?_eq_some_iff.1 (e.trans (Array.getElem?_eq_getElem h1))).1, h2, h3, fun j x hx => ?_⟩
 rw [<- h4 j x hx]
 unfold World.cell?
 simp only [e]
theorem BK.use_one {w0 w : World} {g gd m N : Nat} {h : List ByteArray} {K : KD} {Ms : List MK} {gen by_ p : Int} {b : ByteArray} (s : BK w0 w g gd m N h K Ms [BR gen 1 b p]) (hm : m < 1000000) (hI : nK by_) (hb : iI b.size = true) :
  Calls Tryz.prog 19 #[.pointer (some ⟨g, 0, none⟩), .int .i64 p, .int .i64 by_] w fun e w' => ∃ n er r K', e = .returned (.tuple #[.int .i64 n, .int .i64 er]) /\ BK w0 w' g gd (m + 1) N h K' Ms [BR gen r b p] /\ (by_ < -1 \/ 59999 < by_ -> n = 0 /\ er = 15 /\ r = 1) /\ (¬ (by_ < -1 \/ 59999 < by_) -> n = 1 + by_ /\ er = 0 /\ r = 1 + by_) := by
 by_cases ho : by_ < -1 \/ 59999 < by_
 ·refine (BK.use_no (l1 := []) (l2 := []) s hm hI hb (by omega)).mono ?_
  rintro e w' ⟨rfl, hs⟩
  exact ⟨_, _, _, _, rfl, hs, fun _ => ⟨rfl, rfl, rfl⟩, fun h => absurd ho h⟩
 ·refine (BK.use_yes (l1 := []) (l2 := []) s hm hI hb (by omega)).mono ?_
  rintro e w' ⟨rfl, K', hs⟩
  exact ⟨_, _, _, K', rfl, hs, fun h => absurd h ho, fun _ => ⟨rfl, rfl, rfl⟩⟩
theorem Hl (gen : Int) (A : Option Addr) (m c : Nat) (xs : List ByteArray) (by_ : Int) (w : World) (hgen : -9223372036854775808 <= gen /\ gen <= 9223372036854775807) (hin : wK w A m c xs) (hby : -9223372036854775808 <= by_ /\ by_ <= 9223372036854775807) :
  Calls Tryz.prog 3 #[.int .i64 gen, .slice A m c, .int .i64 by_] w fun e w' => e = .returned (.bool true) /\ Below w.heap.size w w' := by
 have HAL := Lib.hid lI
 have HIN := Lib.hid hin
 have HSH := Lib.hid (Mt 12 400 A m c xs w HIN.out.len HIN.out.lie HIN.out.short HIN.out.few (by omega) (by omega) (by omega) (by omega))
 have HFR : Hid (∀ w1, Below w.heap.size w w1 -> Calls Tryz.prog 8 #[.int .i64 150] w1 fun e w' => ∃ g gd K h, e = .returned (.pointer (some ⟨g, 0, none⟩)) /\ eK w w' g gd 1 150 K [] /\ iY 150 K h) := Lib.hid (fun w1 hb => lQ (N := 150) (by omega) w w1 hb)
 clear hin
 go_enter Tryz.func3, Tryz.ntmps3
 go_wp2_with fail
 refine HSH.out.mono ?_
 rintro e w1 ⟨⟨r, rfl, hr⟩, hb1⟩
 have HB1 := Lib.hid hb1
 clear hb1 HSH
 cases r with
 | false =>
   clear hr
   go_wp2_with fail
   refine (HAL.out _).mono ?_
   rintro e w2 ⟨rfl, hb2⟩
   have HB2 := Lib.hid (HB1.out.trans (hb2.mono HB1.out.size))
   clear hb2
   go_wp2_with fail
   go_ret
   exact ⟨rfl, HB2.out⟩
 | true =>
 have HR := Lib.hid (hr rfl)
 clear hr
 go_wp2_with fail
 refine (HAL.out _).mono ?_
 rintro e w2 ⟨rfl, hb2⟩
 have HB2 := Lib.hid (HB1.out.trans (hb2.mono HB1.out.size))
 clear hb2 HB1
 have hm12 : m <= 12 := by have := HR.out.1; rw [HIN.out.len] at this; omega
 have hmc : m <= c := HIN.out.room
 have HCS : Hid ((aW xs).length <= 400) := Lib.hid (by have := HR.out.2; omega)
 clear HR
 go_wp2_with fail
 refine (HFR.out _ HB2.out).mono ?_
 rintro e w3 ⟨g, gd, K, h, rfl, hs3, hf⟩
 have HS3 := Lib.hid hs3
 have HF := Lib.hid hf
 have HB3 : Hid (Below w.heap.size w w3) := Lib.hid hs3.st.at0
 have HJ := Lib.hid (Rr A m c xs w3 HIN.out.len ((HIN.out.lie.below HB3.out).more HB3.out.size) (by omega) (by have := HCS.out; omega))
 have HLE := Lib.hid (Rt A m c xs w3 HIN.out.len ((HIN.out.lie.below HB3.out).more HB3.out.size) (by omega) HIN.out.nil_)
 clear hs3 hf HFR HB2
 go_wp2_with fail
 refine HJ.out.mono ?_
 rintro e w3' ⟨rfl, rfl⟩
 go_wp2_with fail
 refine HLE.out.mono ?_
 rintro e w4 ⟨gl, cap, rfl, hL, hb4⟩
 obtain ⟨o, ho⟩ : ∃ o, w4.heap[gl]? = some o := ⟨_, Array.getElem?_eq_getElem hL.2.1⟩
 have HBK0 := Lib.hid (BK.fresh (HS3.out.hold hb4 hL.1 ho) HF.out)
 have hcap : m <= cap := by have := hL.2.2.1; rw [HIN.out.len] at this; omega
 have HST : Hid (∀ w', Below w.heap.size w w' -> w'.heap[gl]? = some o -> Calls Tryz.prog 12 #[.slice (some ⟨gl, 0, none⟩) m cap, .slice A m c] w' fun e w'' => e = .returned (.bool true) /\ ∃ n, w'' = w'.drewN n) := Lib.hid (fun w' hb' ho' =>
  Mu gl cap A m c xs _ w' HIN.out.len (hL.same (ho'.trans ho.symm)) ((HIN.out.lie.below hb').more hb'.size) (by omega))
 have HTX := Lib.hid hL.txts
 clear hb4 hL ho HJ HLE HS3
 obtain ⟨J, hJ⟩ : ∃ J, J = eE xs := ⟨_, rfl⟩
 have HJJ := Lib.hid hJ
 have HJS : Hid (J.size = (aW xs).length) := Lib.hid (by rw [hJ, jC])
 have hjs : J.size <= 400 := by rw [HJS.out]; exact HCS.out
 obtain ⟨ok, hok⟩ : ∃ ok, ok = Vs gen xs := ⟨_, rfl⟩
 have HOK := Lib.hid hok
 have HOB : Hid ((!ok) = !(decide (1 <= gen /\ gen <= 3) && decide (0 < J.size /\ J.size <= 128))) := Lib.hid (by rw [hok, HJS.out]; rfl)
 rw [<- hJ]
 clear hJ hok
 cases ok with
 | false =>
   have HP := Lib.hid (Ds HBK0.out.st HBK0.out.run (by omega) gen (some ⟨gl, 0, none⟩) m cap xs HIN.out.len HTX.out hcap (by omega) (by have := HCS.out; omega) (fun x hx => by
    obtain ⟨j, hj⟩ := List.mem_iff_getElem?.1 hx
    have := kH hj
    have := HCS.out
    omega))
   go_wp2_with fail
   refine HP.out.mono ?_
   rintro e w5 hp
   obtain ⟨rfl, hs5⟩ : e = .returned (.tuple #[.int .i64 0, .int .i64 1]) /\ eK w w5 g gd (1 + 40) 150 K [.held gl o] := by
    rcases hp with ⟨-, h1, h2⟩ | ⟨h1, -⟩
    ·exact ⟨h1, h2⟩
    ·rw [<- HOK.out] at h1; cases h1
   have HS5 := Lib.hid hs5
   clear hp hs5 HP
   go_wp2_with fail
   refine (HST.out _ HS5.out.st.at0 (HS5.out.held (by simp))).mono ?_
   rintro e w6 ⟨rfl, n6, rfl⟩
   have HS6 := Lib.hid (HS5.out.below (cI (Below.refl _ _) n6))
   have HDI := Lib.hid (Qq HS6.out HF.out.run (by omega))
   rw [HF.out.pend] at HDI
   obtain ⟨w6, hw6⟩ : ∃ w6, w6 = w5.drewN n6 := ⟨_, rfl⟩
   rw [<- hw6] at HS6 HDI
   rw [<- hw6]
   clear hw6 HS5
   have HNG : Hid (¬ (1 <= gen /\ gen <= 3 /\ 1 <= J.size /\ J.size <= 128)) := Lib.hid (fun hx => by
    have hh := HOB.out
    rw [decide_eq_true (p := 1 <= gen /\ gen <= 3) ⟨hx.1, hx.2.1⟩, decide_eq_true (p := 0 < J.size /\ J.size <= 128) ⟨hx.2.2.1, hx.2.2.2⟩] at hh
    cases hh)
   go_upto_region 11 with fail
   go_cut [60] from 45 to 61 (fun v wx => v = .bool true /\ wx = w6)
   case first =>
    go_wp2_with fail
    all_goals (go_meet; refine ⟨congrArg Value.bool ?_, rfl⟩; (try simp); first | done | (have hh := HNG.out; omega))
   case rest =>
   obtain ⟨w7, rfl⟩ : ∃ w7, w7 = wc := ⟨_, rfl⟩
   obtain ⟨rfl, rfl⟩ := hcut
   go_wp2_with fail
   refine HDI.out.mono ?_
   rintro e w8 ⟨A8, c8, rfl, -, hb8⟩
   have HS8 := Lib.hid (HS6.out.below hb8)
   clear hb8
   go_wp2_with fail
   go_ret
   exact ⟨rfl, HS8.out.st.at0⟩
 | true =>
 have hg : 1 <= gen /\ gen <= 3 := by have := HOB.out; simp at this; omega
 have hfit : iI J.size = true := by
  have := HOB.out
  simp at this
  exact decide_eq_true (by omega)
 have HFT := Lib.hid hfit
 have hj1 : 1 <= J.size /\ J.size <= 128 := by have := of_decide_eq_true hfit; omega
 have HP := Lib.hid (HBK0.out.put (gen := gen) (by omega) (some ⟨gl, 0, none⟩) m cap xs HIN.out.len HTX.out hcap (by omega) HOK.out.symm (by decide))
 rw [<- HJJ.out] at HP
 go_wp2_with fail
 refine HP.out.mono ?_
 rintro e w5 ⟨K5, p, rfl, hk5⟩
 have HK5 := Lib.hid hk5
 clear hk5 HP HBK0 hfit
 go_wp2_with fail
 refine (HST.out _ HK5.out.base (HK5.out.st.held (by simp))).mono ?_
 rintro e w6 ⟨rfl, n6, rfl⟩
 have HK6 := Lib.hid (HK5.out.below (cI (Below.refl _ _) n6))
 obtain ⟨w6, hw6⟩ : ∃ w6, w6 = w5.drewN n6 := ⟨_, rfl⟩
 rw [<- hw6] at HK6
 rw [<- hw6]
 clear hw6 HK5 HST
 have g1 : ¬ gen < 1 := by omega
 have g2 : ¬ 3 < gen := by omega
 have g3 : ¬ (J.size : Int) < 1 := by omega
 have g4 : ¬ 128 < (J.size : Int) := by omega
 have HG := Lib.hid hg
 obtain ⟨kd, hkd⟩ : ∃ kd, kd = cX gen := ⟨_, rfl⟩
 have HKE0 := Lib.hid hkd
 clear hg hj1
 go_upto_if 74 with fail
 go_cut [12] from 73 to 75 (fun v wx => v = .int .i64 kd /\ wx = w6)
 case first =>
  by_cases h1 : gen = 1
  ·have e1 : kd = 1 := by rw [HKE0.out, h1]; rfl
   subst h1
   go_wp2_with fail
   go_meet
   exact ⟨by rw [e1], rfl⟩
  ·have e1 : kd = 2 := by rw [HKE0.out]; unfold cX; rw [if_neg h1, if_pos (by have := HG.out; omega)]
   have e2 : (gen == 1) = false := beq_eq_false_iff_ne.2 h1
   go_wp2_with fail
   go_meet
   exact ⟨by rw [e1], rfl⟩
 case rest =>
 obtain ⟨w7, rfl⟩ : ∃ w7, w7 = wc := ⟨_, rfl⟩
 obtain ⟨rfl, hw7⟩ := hcut
 subst hw7
 have hgt := HK6.out.get (gen := gen) (refs := 1) (b := J) (p := p) (by simp) HFT.out
 rw [<- hkd] at hgt
 unfold Ci at hgt
 have HGT := Lib.hid hgt
 obtain ⟨S, hS⟩ : ∃ S, S = zO gen J := ⟨_, rfl⟩
 obtain ⟨L, hL⟩ : ∃ L, L = rG gen J := ⟨_, rfl⟩
 have HLS := Lib.hid (mJ HG.out J)
 have HPF := Lib.hid (Lf HG.out J)
 have hk01 : kd = 1 \/ kd = 2 := by rw [hkd]; exact tD HG.out
 have HPR : Hid (∀ w', Calls Tryz.prog 16 #[.int .i64 kd, .string J] w' fun e w'' => e = .returned (.agg #[.int .i64 kd, .string S]) /\ Below w'.heap.size w' w'') := Lib.hid (fun w' => by rw [hkd, hS]; exact wL gen J w' (by omega))
 have HLP : Hid (∀ w', Calls Tryz.prog 17 #[.agg #[.int .i64 kd, .string S]] w' fun e w'' => e = .returned (.string L) /\ Below w'.heap.size w' w'') := Lib.hid (fun w' => by
  have := zL kd S w' (by omega) (by omega) (by rw [hS]; exact HPF.out)
  rw [hL]
  unfold rG
  rw [<- hkd, <- hS]
  exact this)
 have HKD : Hid (∀ w', Calls Tryz.prog 18 #[.int .i64 gen] w' fun e w'' => e = .returned (.int .i64 kd) /\ Below w'.heap.size w' w'') := Lib.hid (fun w' => by rw [hkd]; exact (mI gen w').mono fun e w'' h => ⟨h.1, by rw [h.2]; exact Below.refl _ _⟩)
 rw [<- hS] at HGT HPF
 rw [<- hL] at HLS
 have HCG : Hid (∀ w', Below w7.heap.size w7 w' -> Calls Tryz.prog 15 #[.pointer (some ⟨g, 0, none⟩), .int .i64 p] w' fun e w'' => e = .returned (.tuple #[.agg #[.int .i64 gen, .int .i64 1, .int .i64 1, .string (L ++ J)], .int .i64 0]) /\ Below w'.heap.size w' w'') := Lib.hid (fun w' hb' => by
  obtain ⟨hon, hp⟩ := HK6.out.ofAt (gen := gen) (refs := 1) (b := J) (p := p) (by simp)
  have := Hc (HK6.out.st.st.below hb') HK6.out.run hp
  rw [show aI K5 p = aI K5 ([p].getD 0 0) from rfl, wE hon, gQ hon] at this
  rw [hL]
  exact this)
 have HGE : Hid ((gen == gen) = true) := Lib.hid (by simp)
 have HKE : Hid ((kd == kd) = true) := Lib.hid (by simp)
 have HSE : Hid ((S.toList == S.toList) = true) := Lib.hid (by rw [fC]; exact decide_eq_true rfl)
 have HJE : Hid ((J.toList == J.toList) = true) := Lib.hid (by rw [fC]; exact decide_eq_true rfl)
 have HDE : Hid (((L ++ J).toList == (L ++ J).toList) = true) := Lib.hid (by rw [fC]; exact decide_eq_true rfl)
 have HLJ : Hid (¬ (9223372036854775807 < L.size + J.size)) := Lib.hid (by rw [HLS.out]; omega)
 have HSK : Hid (cX gen = kd) := Lib.hid hkd.symm
 have HSP : Hid (zO gen J = S) := Lib.hid hS.symm
 clear hgt hS hL hk01 hkd HKE0
 go_wp2_with fail
 refine HGT.out.mono ?_
 rintro e w8 ⟨rfl, hb8⟩
 go_upto_region 17 with fail
 obtain ⟨gb, hgb⟩ : ∃ gb, gb = w8.heap.size := ⟨_, rfl⟩
 obtain ⟨w9, hw9⟩ : ∃ w9, w9 = w8.alloc (.cells #[.int .i64 gen, .int .i64 1, .int .i64 kd, .string S, .string J] 38) := ⟨_, rfl⟩
 have hb79 : Below w7.heap.size w7 w9 := by rw [hw9]; exact hb8.alloc hb8.size _
 have KB9 : Hid (aG w9 gb 38 #[.int .i64 gen, .int .i64 1, .int .i64 kd, .string S, .string J]) := Lib.hid (by rw [hw9, hgb]; exact aG.new w8 _ _)
 have HK9 := Lib.hid (BK.mk (HK6.out.st.hold hb79 (by rw [hgb]; exact hb8.size) KB9.out) HK6.out.run HK6.out.on)
 have HGB : Hid (w.heap.size <= gb) := Lib.hid (by rw [hgb]; exact Nat.le_trans HK6.out.base.size hb8.size)
 have HCG9 := Lib.hid (HCG.out _ hb79)
 rw [<- hw9, <- hgb]
 clear hw9 hgb hb79 hb8 HGT HK6 HCG
 go_wp2_with fail
 refine HCG9.out.mono ?_
 rintro e w10 ⟨rfl, hb10⟩
 go_upto_region 18 with fail
 obtain ⟨gc, hgc⟩ : ∃ gc, gc = w10.heap.size := ⟨_, rfl⟩
 obtain ⟨W0, hW0⟩ : ∃ W0, W0 = w10.alloc (.cells #[.int .i64 gen, .int .i64 1, .int .i64 1, .string (L ++ J)] 42) := ⟨_, rfl⟩
 have hb90 : Below w9.heap.size w9 W0 := by rw [hW0]; exact hb10.alloc hb10.size _
 have HK0 := Lib.hid (HK9.out.below hb90)
 have KB0 := Lib.hid (KB9.out.below hb90 KB9.out.lt)
 have KC0 : Hid (aG W0 gc 42 #[.int .i64 gen, .int .i64 1, .int .i64 1, .string (L ++ J)]) := Lib.hid (by rw [hW0, hgc]; exact aG.new w10 _ _)
 have HBK : Hid (∀ w', Below W0.heap.size W0 w' -> aG w' gb _ _) := Lib.hid (fun w' hw => KB0.out.below hw KB0.out.lt)
 have HCK : Hid (∀ w', Below W0.heap.size W0 w' -> w'.cell? ⟨gc, 0, none⟩ = some (.int .i64 gen) /\ w'.cell? ⟨gc, 1, none⟩ = some (.int .i64 1) /\ w'.cell? ⟨gc, 2, none⟩ = some (.int .i64 1) /\ w'.cell? ⟨gc, 3, none⟩ = some (.string (L ++ J))) := Lib.hid (fun w' hw => by
  have k := KC0.out.below hw KC0.out.lt
  exact ⟨k.cell 0, k.cell 1, k.cell 2, k.cell 3⟩)
 rw [<- hW0, <- hgc]
 clear hW0 hgc hb90 hb10 HK9 KB9 HCG9 KB0 KC0
 refine cE (Below W0.heap.size W0) (by kernel_rfl) (by kernel_rfl) ⟨rfl, rfl, rfl, Nat.le_refl _, fun _ _ => rfl⟩ ?_
 iterate 7 refine aE (fun w' hw K hK => by go_simp; exact hK) ⟨_, rfl, Nat.le_of_ble_eq_true rfl⟩ ⟨_, Below.refl _ _⟩ ?_
 refine aE (fun w' hw K hK => by obtain ⟨⟨c0, c1, c2, c3, c4⟩, -⟩ := oB (HBK.out w' hw); go_simp; exact hK) ⟨_, rfl, Nat.le_of_ble_eq_true rfl⟩ ⟨_, Below.refl _ _⟩ ?_
 iterate 3 refine aE (fun w' hw K hK => by go_simp; exact hK) ⟨_, rfl, Nat.le_of_ble_eq_true rfl⟩ ⟨_, Below.refl _ _⟩ ?_
 refine eI (fun w' hw => (HPR.out w').mono fun e w'' ⟨he, hb⟩ => ⟨he, hw.trans (hb.mono hw.size)⟩) (by go_simp) (fun w' hw => by go_simp) ?_
 simp only [Act.put, List.setIfInBounds_toArray, List.set_cons_succ, List.set_cons_zero]
 iterate 2 refine aE (fun w' hw K hK => by go_simp; exact hK) ⟨_, rfl, Nat.le_of_ble_eq_true rfl⟩ ⟨_, Below.refl _ _⟩ ?_
 refine aE (fun w' hw K hK => by have h1 := HGE.out; have h2 := HKE.out; have h3 := HSE.out; have h4 := HJE.out; go_simp; exact hK) ⟨_, rfl, Nat.le_of_ble_eq_true rfl⟩ ⟨_, Below.refl _ _⟩ ?_
 iterate 7 refine aE (fun w' hw K hK => by go_simp; exact hK) ⟨_, rfl, Nat.le_of_ble_eq_true rfl⟩ ⟨_, Below.refl _ _⟩ ?_
 refine aE (fun w' hw K hK => by obtain ⟨d0, d1, d2, d3⟩ := HCK.out w' hw; go_simp; exact hK) ⟨_, rfl, Nat.le_of_ble_eq_true rfl⟩ ⟨_, Below.refl _ _⟩ ?_
 refine aE (fun w' hw K hK => by go_simp; exact hK) ⟨_, rfl, Nat.le_of_ble_eq_true rfl⟩ ⟨_, Below.refl _ _⟩ ?_
 refine aE (fun w' hw K hK => by obtain ⟨⟨c0, c1, c2, c3, c4⟩, -⟩ := oB (HBK.out w' hw); go_simp; exact hK) ⟨_, rfl, Nat.le_of_ble_eq_true rfl⟩ ⟨_, Below.refl _ _⟩ ?_
 refine eI (fun w' hw => (HLP.out w').mono fun e w'' ⟨he, hb⟩ => ⟨he, hw.trans (hb.mono hw.size)⟩) (by go_simp) (fun w' hw => by go_simp) ?_
 simp only [Act.put, List.setIfInBounds_toArray, List.set_cons_succ, List.set_cons_zero]
 refine aE (fun w' hw K hK => by go_simp; exact hK) ⟨_, rfl, Nat.le_of_ble_eq_true rfl⟩ ⟨_, Below.refl _ _⟩ ?_
 refine aE (fun w' hw K hK => by have h1 := HLJ.out; go_simp; exact hK) ⟨_, rfl, Nat.le_of_ble_eq_true rfl⟩ ⟨_, Below.refl _ _⟩ ?_
 refine aE (fun w' hw K hK => by have h1 := HDE.out; go_simp; exact hK) ⟨_, rfl, Nat.le_of_ble_eq_true rfl⟩ ⟨_, Below.refl _ _⟩ ?_
 iterate 3 refine aE (fun w' hw K hK => by go_simp; exact hK) ⟨_, rfl, Nat.le_of_ble_eq_true rfl⟩ ⟨_, Below.refl _ _⟩ ?_
 refine aE (fun w' hw K hK => by obtain ⟨d0, d1, d2, d3⟩ := HCK.out w' hw; go_simp; exact hK) ⟨_, rfl, Nat.le_of_ble_eq_true rfl⟩ ⟨_, Below.refl _ _⟩ ?_
 iterate 4 refine aE (fun w' hw K hK => by go_simp; exact hK) ⟨_, rfl, Nat.le_of_ble_eq_true rfl⟩ ⟨_, Below.refl _ _⟩ ?_
 refine eI (fun w' hw => (HKD.out w').mono fun e w'' ⟨he, hb⟩ => ⟨he, hw.trans (hb.mono hw.size)⟩) (by go_simp) (fun w' hw => by go_simp) ?_
 simp only [Act.put, List.setIfInBounds_toArray, List.set_cons_succ, List.set_cons_zero]
 refine aE (fun w' hw K hK => by go_simp; exact hK) ⟨_, rfl, Nat.le_of_ble_eq_true rfl⟩ ⟨_, Below.refl _ _⟩ ?_
 refine aE (fun w' hw K hK => by have h1 := HKE.out; go_simp; exact hK) ⟨_, rfl, Nat.le_of_ble_eq_true rfl⟩ ⟨_, Below.refl _ _⟩ ?_
 refine aE (fun w' hw K hK => by go_simp; exact hK) ⟨_, rfl, Nat.le_of_ble_eq_true rfl⟩ ⟨_, Below.refl _ _⟩ ?_
 intro wa hba
 have HKa := Lib.hid (HK0.out.below hba)
 have HUS := Lib.hid (HKa.out.use_one (by omega) hby HFT.out)
 clear hba HBK HCK HPR HLP HKD
 go_wp2_with fail
 refine HUS.out.mono ?_
 rintro e wb ⟨n, er, r, Kb, rfl, hkb, hno, hyes⟩
 have HKb := Lib.hid hkb
 have HNO := Lib.hid hno
 have HYES := Lib.hid hyes
 clear hkb hno hyes HUS HKa
 have HI := Lib.hid hby
 obtain ⟨OB, hOB⟩ : ∃ OB, OB = decide (by_ < -1 \/ 59999 < by_) := ⟨_, rfl⟩
 have HOB2 := Lib.hid hOB
 clear hOB
 go_upto_region 21 with fail
 go_cut [140] from 135 to 141 (fun v wx => v = .bool OB /\ wx = wb)
 case first =>
  go_wp2_with fail
  all_goals (go_meet; refine ⟨congrArg Value.bool ?_, rfl⟩; rw [HOB2.out]; simp; first | done | omega)
 case rest =>
 obtain ⟨w11, rfl⟩ : ∃ w11, w11 = wc := ⟨_, rfl⟩
 obtain ⟨rfl, hw11⟩ := hcut
 subst hw11
 go_upto_if 140 with fail
 go_cut [17] from 140 to 155 (fun v wx => v = .int .i64 r /\ wx = w11)
 case first =>
  cases OB with
  | true =>
    obtain ⟨rfl, rfl, rfl⟩ := HNO.out (of_decide_eq_true HOB2.out.symm)
    go_wp2_with fail
    go_meet
    exact ⟨rfl, rfl⟩
  | false =>
    obtain ⟨hn, rfl, hr⟩ := HYES.out (of_decide_eq_false HOB2.out.symm)
    have hwr : IntKind.i64.wrap (1 + by_) = n := by rw [IntKind.wrap_i64]; have := HI.out; have := of_decide_eq_false HOB2.out.symm; omega
    have hnn : (n == n) = true := by simp
    have hnr : r = n := by omega
    have HNR := Lib.hid hnr
    clear hn hr hnr hby
    go_wp2_with fail
    go_meet
    exact ⟨by rw [HNR.out], rfl⟩
 case rest =>
 obtain ⟨w12, rfl⟩ : ∃ w12, w12 = wc := ⟨_, rfl⟩
 obtain ⟨rfl, hw12⟩ := hcut
 subst hw12
 have hg2 := HKb.out.get (gen := gen) (refs := r) (b := J) (p := p) (by simp) HFT.out
 rw [HSK.out, HSP.out] at hg2
 unfold Ci at hg2
 have HG2 := Lib.hid hg2
 clear hg2 hby
 go_wp2_with fail
 refine HG2.out.mono ?_
 rintro e wd ⟨rfl, hbd⟩
 have HKd := Lib.hid (HKb.out.below hbd)
 have KBd : Hid (aG wd gb 38 #[.int .i64 gen, .int .i64 1, .int .i64 kd, .string S, .string J]) := Lib.hid (HKd.out.st.held (by simp))
 clear hbd HG2 HKb
 obtain ⟨⟨k0, k1, k2, k3, k4⟩, f0, f1, f2, f3, f4⟩ := oB KBd.out
 go_upto_region 28 with fail
 clear k0 k1 k2 k3 k4 f0 f1 f2 f3 f4
 obtain ⟨we, hwe⟩ : ∃ we, we = (((((wd.setCell ⟨gb, 0, none⟩ (.int .i64 gen)).setCell ⟨gb, 1, none⟩ (.int .i64 r)).setCell ⟨gb, 2, none⟩ (.int .i64 kd)).setCell ⟨gb, 3, none⟩ (.string S)).setCell ⟨gb, 4, none⟩ (.string J)) := ⟨_, rfl⟩
 have KE : Hid (aG we gb 38 #[.int .i64 gen, .int .i64 r, .int .i64 kd, .string S, .string J]) := Lib.hid (by rw [hwe]; exact ((((KBd.out.put 0 (.int .i64 gen)).put 1 (.int .i64 r)).put 2 (.int .i64 kd)).put 3 (.string S)).put 4 (.string J))
 have HKE2 : Hid (BK w we g gd _ 150 h Kb [] [BR gen r J p]) := Lib.hid (BK.mk (HKd.out.st.store (x := gb) (o := .cells #[.int .i64 gen, .int .i64 1, .int .i64 kd, .string S, .string J] 38 (0, 0)) (by simp) HGB.out (by
  rw [hwe]
  exact ((((((aR.refl [gb] wd).put (.inl (by simp)) _ _).put (.inl (by simp)) _ _).put (.inl (by simp)) _ _).put (.inl (by simp)) _ _).put (.inl (by simp)) _ _))) HKd.out.run HKd.out.on)
 rw [<- hwe]
 clear hwe HKd KBd
 have c1 : we.cell? ⟨gb, 1, none⟩ = some (.int .i64 r) := KE.out.cell 1
 have c4 : we.cell? ⟨gb, 4, none⟩ = some (.string J) := KE.out.cell 4
 have hrr : (r == r) = true := by simp
 have hjj := HJE.out
 have HDR := Lib.hid (BK.drop (l1 := []) (l2 := []) HKE2.out HFT.out)
 go_wp2_with fail
 refine HDR.out.mono ?_
 rintro e wf ⟨rfl, Kf, hkf⟩
 have HKF := Lib.hid hkf
 clear hkf HDR c1 c4
 go_wp2_with fail
 refine (Hg HKF.out.st HKF.out.run).mono ?_
 rintro e wg ⟨rfl, -, hbg⟩
 have HKG := Lib.hid (HKF.out.below hbg)
 clear hbg
 go_wp2_with fail
 refine (Hg HKG.out.st HKG.out.run).mono ?_
 rintro e wh ⟨rfl, hrm, hbh⟩
 have HKH := Lib.hid (HKG.out.below hbh)
 have HFE := Lib.hid (Ov hrm)
 have hfe : (((150 - 111 : Nat) : Int) - (Kf.H.length : Int)) = 37 := by have h1 : Kf.H.length = 2 := HKF.out.on.cnt; rw [h1]; rfl
 rw [hfe] at HFE
 clear hrm hbh hfe
 go_wp2_with fail
 refine HFE.out.mono ?_
 rintro e wi ⟨rfl, rfl⟩
 go_wp2_with fail
 go_ret
 exact ⟨rfl, HKH.out.base⟩
end Go.Proofs.YtingkbeifohihaaGreatDoor
