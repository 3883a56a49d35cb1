/-
  How many bytes the first piece has: the code's and the document's own. No statement is proved here.
-/
import Derived.Test.YtkcjiogackkecaaCdcSmall
import Derived.Deep.CutRange
namespace Go.Proofs.Ytkcjiogackkecaa
open Go.RowKit

theorem take_drop_cons {l : List UInt8} {m j : Nat} {x : UInt8} (h : l[j]? = some x) (hj : j < m) : (l.take m).drop j = x :: (l.take m).drop (j + 1) := by
  have hl : j < l.length := by
    rcases Nat.lt_or_ge j l.length with h' | h'
    · exact h'
    · rw [List.getElem?_eq_none h'] at h; cases h
  have hlt : j < (l.take m).length := by rw [List.length_take]; omega
  rw [List.drop_eq_getElem_cons hlt]
  congr 1
  rw [List.getElem_take]
  rw [List.getElem?_eq_getElem hl] at h
  exact Option.some.inj h
theorem take_drop_none {l : List UInt8} {m j : Nat} (h : min m l.length ≤ j) : (l.take m).drop j = [] := List.drop_eq_nil_of_le (by rw [List.length_take]; exact h)
theorem hit_yes {R : RuleN} {a h r : Nat} (hr : r = h / 65536 % 2 ^ R.bits a) (h0 : r = 0) : R.hit a h = true := by unfold RuleN.hit; rw [← hr, h0]; rfl
theorem hit_no {R : RuleN} {a h r : Nat} (hr : r = h / 65536 % 2 ^ R.bits a) (h0 : ¬ r = 0) : R.hit a h = false := by unfold RuleN.hit; rw [← hr]; simp [h0]

set_option maxRecDepth 100000 in
set_option maxHeartbeats 4000000 in
theorem cfirst_any (R : RuleN) (s : ByteArray) (w : World) (hs : s.size ≤ 140737488351232) :
    Calls Try.prog 35 #[R.val, .string s] w fun e w' => e = .returned (.int .i64 (firstL R s.data.toList : Int)) ∧ Below w.heap.size w w' := by
  obtain ⟨F, hF⟩ : ∃ F, F = firstL R s.data.toList := ⟨_, rfl⟩
  rw [← hF]
  have HF := Lib.hid hF
  have hsz : s.data.toList.length = s.size := by rw [← Lib.size_eq]
  have HSZ := Lib.hid hsz
  have HVA := Lib.hid (cvalid_any R)
  have HMA := Lib.hid (cmask_any R)
  have HBI := Lib.hid (fun (h : R.ok = true) a => RuleN.bits_le h a)
  obtain ⟨a, b, c, d, e⟩ := R
  have HBK : Hid (Blk (w.alloc (.cells #[.int .i64 a, .int .i64 b, .int .i64 c, .int .i64 d, .int .i64 e] 23)) w.heap.size 23 #[.int .i64 a, .int .i64 b, .int .i64 c, .int .i64 d, .int .i64 e]) := Lib.hid (Blk.new w _ _)
  have HB1 : Hid (Below w.heap.size w (w.alloc (.cells #[.int .i64 a, .int .i64 b, .int .i64 c, .int .i64 d, .int .i64 e] 23))) := Lib.hid ((Below.refl _ _).alloc (Nat.le_refl _) _)
  have HL : Hid (w.heap.size < (w.alloc (.cells #[.int .i64 a, .int .i64 b, .int .i64 c, .int .i64 d, .int .i64 e] 23)).heap.size) := Lib.hid HBK.out.lt
  obtain ⟨V, hV⟩ : ∃ V, V = (RuleN.mk a b c d e).ok := ⟨_, rfl⟩
  rw [← hV] at HVA
  clear hF hsz
  unfold RuleN.val at HVA HMA ⊢
  simp only at HVA HMA
  cases V with
  | false =>
    have HFE : Hid (F = s.size) := Lib.hid (by rw [HF.out]; unfold firstL; rw [← hV, if_neg (by simp), HSZ.out])
    clear hV
    go_enter Try.func35, Try.ntmps35
    go_wp2_with fail
    refine (HVA.out _).mono ?_
    rintro e w1 ⟨rfl, hb1⟩
    have HB2 := Lib.hid (HB1.out.trans (hb1.mono HB1.out.size))
    clear hb1
    go_wp2_with fail
    go_ret
    exact ⟨by rw [HFE.out]; rfl, HB2.out⟩
  | true =>
    have hok := hV.symm
    have hp := (RuleN.mk a b c d e).ok_parts hok
    have HMK := Lib.hid (HMA.out hok)
    have HBT := Lib.hid (HBI.out hok)
    simp only at hp
    obtain ⟨a, rfl⟩ := Int.eq_ofNat_of_zero_le (show 0 ≤ a by omega)
    obtain ⟨c, rfl⟩ := Int.eq_ofNat_of_zero_le (show 0 ≤ c by omega)
    obtain ⟨En, hEn⟩ : ∃ En, En = min c s.size := ⟨_, rfl⟩
    have hmin : min (c : Int) (s.size : Int) = (En : Int) := by omega
    have hac : a ≤ c := by omega
    have hcm : c ≤ 4096 := by omega
    have HEN := Lib.hid hEn
    have hgo : Hid ((¬ a ≤ En ∧ F = En) ∨ (a ≤ En ∧ F = goF ⟨(a : Int), b, (c : Int), d, e⟩ a 0 ((s.data.toList.take c).drop a))) := Lib.hid (by
      rw [HF.out]
      unfold firstL
      rw [if_pos hok]
      simp only [Int.toNat_natCast]
      rw [HSZ.out]
      by_cases h1 : (s.size : Int) ≤ (a : Int)
      · rw [if_pos h1]
        by_cases h2 : a ≤ En
        · right
          refine ⟨h2, ?_⟩
          rw [take_drop_none (by rw [HSZ.out]; omega)]
          unfold goF
          omega
        · left
          exact ⟨h2, by omega⟩
      · rw [if_neg h1]
        right
        exact ⟨by omega, rfl⟩)
    have hen : En ≤ c ∧ En ≤ s.size := by omega
    have HVV := HVA
    clear hok hV hp hEn HVA HMA HBI
    go_enter Try.func35, Try.ntmps35
    go_wp2_with fail
    refine (HVV.out _).mono ?_
    rintro e w1 ⟨rfl, hb1⟩
    have hbk := HBK.out.below hb1 HL.out
    have c0 : w1.cell? ⟨w.heap.size, 0, none⟩ = some (.int .i64 (a : Int)) := hbk.cell 0
    have c2 : w1.cell? ⟨w.heap.size, 2, none⟩ = some (.int .i64 (c : Int)) := hbk.cell 2
    have HBK1 := Lib.hid hbk
    have HB2 := Lib.hid (HB1.out.trans (hb1.mono HB1.out.size))
    have HL1 : Hid (w.heap.size < w1.heap.size) := Lib.hid hbk.lt
    clear hb1 hbk
    go_upto_region 3 with fail
    go_cut [5] from 13 to 17 (fun u wx => u = .int .i64 (En : Int) ∧ w1 = wx)
    case first =>
      by_cases hcs : s.size < c
      · have e1 : En = s.size := by omega
        subst e1
        go_wp2_with fail
        go_meet
        exact ⟨rfl, rfl⟩
      · have e1 : En = c := by omega
        subst e1
        go_wp2_with fail
        go_meet
        exact ⟨rfl, rfl⟩
    case rest =>
    obtain ⟨rfl, rfl⟩ := hcut
    go_wp2_with fail
    go_loopw [6, 7] (fun hv i wr => ∃ (j h : Nat), a ≤ j ∧ (j ≤ En ∨ (j = a ∧ F = En)) ∧ i = .int .i64 (j : Int) ∧ hv = .int .u64 (h : Int) ∧ h < 18446744073709551616 ∧ (j ≤ En → F = goF ⟨(a : Int), b, (c : Int), d, e⟩ j h ((s.data.toList.take c).drop j)) ∧ Below w1.heap.size w1 wr) (fun _ i _ => En - (intOf i).toNat)
    case atStart =>
      refine ⟨a, 0, Nat.le_refl _, ?_, rfl, rfl, by decide, fun h => ?_, Below.refl _ _⟩
      · rcases hgo.out with h | h
        · exact .inr ⟨rfl, h.2⟩
        · exact .inl h.1
      · rcases hgo.out with h' | h'
        · exact absurd h h'.1
        · exact h'.2
    case round =>
      obtain ⟨j, h, haj, hor, rfl, rfl, hh, hgj, hbr⟩ := hrel
      have hbk := HBK1.out.below hbr HL1.out
      have HBKr := Lib.hid hbk
      have HGJ := Lib.hid hgj
      have HOR := Lib.hid hor
      have HBR := Lib.hid hbr
      have HAJ := Lib.hid haj
      have HH := Lib.hid hh
      clear c0 c2 hbk hgj hor hbr haj hh
      by_cases hlt : j < En
      · have hxj : s.data.toList[j]? = some (s[j]'(by omega)) := by
          rw [List.getElem?_eq_getElem (by rw [HSZ.out]; omega)]
          rfl
        have hjs : j < s.size := by omega
        obtain ⟨x, hx0⟩ : ∃ x, x = s[j]'hjs := ⟨_, rfl⟩
        rw [← hx0] at hxj
        have HX0 := Lib.hid hx0
        clear hx0
        have HTD := Lib.hid (take_drop_cons (m := c) hxj (by omega))
        obtain ⟨t, ht⟩ : ∃ t, t = gstep h x := ⟨_, rfl⟩
        obtain ⟨v, hv⟩ : ∃ v, v = (RuleN.mk (a : Int) b (c : Int) d e).bits j := ⟨_, rfl⟩
        have hv20 : v ≤ 20 := by rw [hv]; exact HBT.out j
        have ht64 : t < 18446744073709551616 := by rw [ht]; exact gstep_lt _ _
        obtain ⟨r, hr⟩ : ∃ r, r = t / 65536 % 2 ^ v := ⟨_, rfl⟩
        have hand : bits .and .u64 ((t : Int) / 65536) ((2 ^ v - 1 : Nat) : Int) = (r : Int) := by rw [and_u64 t v ht64 hv20, hr]
        obtain ⟨M, hM⟩ : ∃ M, M = 2 ^ v - 1 := ⟨_, rfl⟩
        have hMm := fun w => HMK.out j w
        rw [← hv, ← hM] at hMm
        rw [← hM] at hand
        have HMM := Lib.hid hMm
        have HT := Lib.hid ht
        have HR : Hid (r = t / 65536 % 2 ^ (RuleN.mk (a : Int) b (c : Int) d e).bits j) := Lib.hid (by rw [← hv]; exact hr)
        have HT64 := Lib.hid ht64
        have hI : (j : Int) < (En : Int) := by omega
        have hb2 : Below w1.heap.size w1 (wr.alloc (.cells #[.int .u8 (x.toNat : Int)] 5)) := HBR.out.alloc HBR.out.size _
        have HB22 := Lib.hid hb2
        have hbk2 := HBK1.out.below hb2 HL1.out
        have c0 : (wr.alloc (.cells #[.int .u8 (x.toNat : Int)] 5)).cell? ⟨w.heap.size, 0, none⟩ = some (.int .i64 (a : Int)) := hbk2.cell 0
        have c1 : (wr.alloc (.cells #[.int .u8 (x.toNat : Int)] 5)).cell? ⟨w.heap.size, 1, none⟩ = some (.int .i64 b) := hbk2.cell 1
        have c2 : (wr.alloc (.cells #[.int .u8 (x.toNat : Int)] 5)).cell? ⟨w.heap.size, 2, none⟩ = some (.int .i64 (c : Int)) := hbk2.cell 2
        have c3 : (wr.alloc (.cells #[.int .u8 (x.toNat : Int)] 5)).cell? ⟨w.heap.size, 3, none⟩ = some (.int .i64 d) := hbk2.cell 3
        have c4 : (wr.alloc (.cells #[.int .u8 (x.toNat : Int)] 5)).cell? ⟨w.heap.size, 4, none⟩ = some (.int .i64 e) := hbk2.cell 4
        have HRO := Lib.hid (roll_any h (some ⟨wr.heap.size, 0, none⟩) 1 1 [x] (wr.alloc (.cells #[.int .u8 (x.toNat : Int)] 5)) rfl (byts_one _ _ _ rfl _ rfl) (by omega) HH.out)
        rw [groll_one, ← HT.out] at HRO
        clear hxj hv hv20 ht ht64 hr hM hMm hb2 hbk2
        go_wp2_with fail
        rw [← HX0.out]
        refine HRO.out.mono ?_
        rintro eo w2 ⟨rfl, rfl⟩
        go_wp2_with fail
        refine (HMM.out _).mono ?_
        rintro eo w3 ⟨rfl, hb3⟩
        have HB3 := Lib.hid (HB22.out.trans (hb3.mono HB22.out.size))
        clear hb3 c0 c1 c2 c3 c4
        have HJE : Hid (j ≤ En) := Lib.hid (by omega)
        by_cases hr0 : r = 0
        · have HFJ : Hid (F = j + 1) := Lib.hid (by
            rw [HGJ.out HJE.out, HTD.out]
            unfold goF
            rw [← HT.out, if_pos (hit_yes HR.out hr0)])
          have hr1 : (r : Int) = 0 := by omega
          clear hr0
          go_wp2_with fail
          go_ret
          exact ⟨by rw [HFJ.out]; rfl, HB2.out.trans (HB3.out.mono HB2.out.size)⟩
        · have HFJ : Hid (F = goF ⟨(a : Int), b, (c : Int), d, e⟩ (j + 1) t ((s.data.toList.take c).drop (j + 1))) := Lib.hid (by
            rw [HGJ.out HJE.out, HTD.out]
            rw [goF]
            rw [← HT.out, if_neg (by rw [hit_no HR.out hr0]; simp)])
          have hr1 : ¬ (r : Int) = 0 := by omega
          go_wp2_with fail
          go_roundw
          case rel => exact ⟨j + 1, t, by have := HAJ.out; omega, .inl (by omega), by go_num, rfl, HT64.out, fun _ => HFJ.out, HB3.out⟩
          case measure => simp [intOf]; omega
      · have HFE : Hid (F = En) := Lib.hid (by
          rcases HOR.out with h1 | h1
          · have : j = En := by omega
            subst this
            rw [HGJ.out (Nat.le_refl _), take_drop_none (by rw [HSZ.out, ← HEN.out]; exact Nat.le_refl _)]
            rfl
          · exact h1.2)
        have hI : ¬ (j : Int) < (En : Int) := by omega
        go_wp2_with fail
        go_ret
        exact ⟨by rw [HFE.out]; rfl, HB2.out.trans (HBR.out.mono HB2.out.size)⟩
theorem tmod_u64 (t P : Nat) : Int.tmod ((t : Int) / 65536) (P : Int) = ((t / 65536 % P : Nat) : Int) := by
  rw [show (t : Int) / 65536 = ((t / 65536 : Nat) : Int) from (Int.natCast_ediv t 65536).symm]
  exact (Int.ofNat_tmod _ _).symm
theorem emod_u64 (t P : Nat) : ((t : Int) / 65536) % (P : Int) = ((t / 65536 % P : Nat) : Int) := by
  rw [show (t : Int) / 65536 = ((t / 65536 : Nat) : Int) from (Int.natCast_ediv t 65536).symm]
  exact (Int.natCast_emod _ _).symm
set_option maxRecDepth 100000 in
set_option maxHeartbeats 4000000 in
theorem rfirst_any (R : RuleN) (s : ByteArray) (w : World) (hs : s.size ≤ 140737488351232) :
    Calls Try.prog 18 #[R.val, .string s] w fun e w' => e = .returned (.int .i64 (firstL R s.data.toList : Int)) ∧ Below w.heap.size w w' := by
  obtain ⟨F, hF⟩ : ∃ F, F = firstL R s.data.toList := ⟨_, rfl⟩
  rw [← hF]
  have HF := Lib.hid hF
  have hsz : s.data.toList.length = s.size := by rw [← Lib.size_eq]
  have HSZ := Lib.hid hsz
  have HVA := Lib.hid (rvalid_any R)
  obtain ⟨a, b, c, d, e⟩ := R
  have HBK : Hid (Blk (w.alloc (.cells #[.int .i64 a, .int .i64 b, .int .i64 c, .int .i64 d, .int .i64 e] 40)) w.heap.size 40 #[.int .i64 a, .int .i64 b, .int .i64 c, .int .i64 d, .int .i64 e]) := Lib.hid (Blk.new w _ _)
  have HB1 : Hid (Below w.heap.size w (w.alloc (.cells #[.int .i64 a, .int .i64 b, .int .i64 c, .int .i64 d, .int .i64 e] 40))) := Lib.hid ((Below.refl _ _).alloc (Nat.le_refl _) _)
  have HL : Hid (w.heap.size < (w.alloc (.cells #[.int .i64 a, .int .i64 b, .int .i64 c, .int .i64 d, .int .i64 e] 40)).heap.size) := Lib.hid HBK.out.lt
  obtain ⟨V, hV⟩ : ∃ V, V = (RuleN.mk a b c d e).ok := ⟨_, rfl⟩
  rw [← hV] at HVA
  clear hF hsz
  unfold RuleN.val at HVA ⊢
  simp only at HVA
  cases V with
  | false =>
    have HFE : Hid (F = s.size) := Lib.hid (by rw [HF.out]; unfold firstL; rw [← hV, if_neg (by simp), HSZ.out])
    clear hV
    go_enter Try.func18, Try.ntmps18
    go_wp2_with fail
    refine (HVA.out _).mono ?_
    rintro e w1 ⟨rfl, hb1⟩
    have HB2 := Lib.hid (HB1.out.trans (hb1.mono HB1.out.size))
    clear hb1
    go_wp2_with fail
    go_ret
    exact ⟨by rw [HFE.out]; rfl, HB2.out⟩
  | true =>
    have hok := hV.symm
    have hp := (RuleN.mk a b c d e).ok_parts hok
    simp only at hp
    obtain ⟨a, rfl⟩ := Int.eq_ofNat_of_zero_le (show 0 ≤ a by omega)
    obtain ⟨c, rfl⟩ := Int.eq_ofNat_of_zero_le (show 0 ≤ c by omega)
    obtain ⟨d, rfl⟩ := Int.eq_ofNat_of_zero_le (show 0 ≤ d by omega)
    obtain ⟨e, rfl⟩ := Int.eq_ofNat_of_zero_le (show 0 ≤ e by omega)
    obtain ⟨P1, hP1⟩ : ∃ P, P = (2 : Nat) ^ d := ⟨_, rfl⟩
    obtain ⟨P2, hP2⟩ : ∃ P, P = (2 : Nat) ^ e := ⟨_, rfl⟩
    have HP1 := Lib.hid hP1
    have HP2 := Lib.hid hP2
    have HQ1 := Lib.hid (shl_u64 d (by omega))
    have HQ2 := Lib.hid (shl_u64 e (by omega))
    rw [← hP1] at HQ1
    rw [← hP2] at HQ2
    have HN1 : Hid (1 ≤ P1) := Lib.hid (by rw [hP1]; exact Nat.one_le_two_pow)
    have HN2 : Hid (1 ≤ P2) := Lib.hid (by rw [hP2]; exact Nat.one_le_two_pow)
    have hd20 : d ≤ 20 := by omega
    have he20 : e ≤ 20 := by omega
    have hac : a ≤ c := by omega
    have hcm : c ≤ 4096 := by omega
    clear hP1 hP2
    by_cases hsm : s.size ≤ a
    · have HFE : Hid (F = s.size) := Lib.hid (by
        rw [HF.out]
        unfold firstL
        rw [if_pos hok, if_pos (by rw [HSZ.out]; simp only; omega), HSZ.out])
      have hsI : (s.size : Int) ≤ (a : Int) := by omega
      clear hok hV hp
      go_enter Try.func18, Try.ntmps18
      go_wp2_with fail
      refine (HVA.out _).mono ?_
      rintro e w1 ⟨rfl, hb1⟩
      have hbk := HBK.out.below hb1 HL.out
      have c0 : w1.cell? ⟨w.heap.size, 0, none⟩ = some (.int .i64 (a : Int)) := hbk.cell 0
      have HB2 := Lib.hid (HB1.out.trans (hb1.mono HB1.out.size))
      clear hb1 hbk
      go_wp2_with fail
      go_ret
      exact ⟨by rw [HFE.out]; rfl, HB2.out⟩
    · have hgo : Hid (F = goF ⟨(a : Int), b, (c : Int), d, e⟩ a 0 ((s.data.toList.take c).drop a)) := Lib.hid (by
        rw [HF.out]
        unfold firstL
        rw [if_pos hok, if_neg (by rw [HSZ.out]; simp only; omega)]
        simp only [Int.toNat_natCast])
      have hsI : decide ((s.size : Int) ≤ (a : Int)) = false := decide_eq_false (by omega)
      clear hok hV hp
      go_enter Try.func18, Try.ntmps18
      go_wp2_with fail
      refine (HVA.out _).mono ?_
      rintro eo w1 ⟨rfl, hb1⟩
      have hbk := HBK.out.below hb1 HL.out
      have c0 : w1.cell? ⟨w.heap.size, 0, none⟩ = some (.int .i64 (a : Int)) := hbk.cell 0
      have c1 : w1.cell? ⟨w.heap.size, 1, none⟩ = some (.int .i64 b) := hbk.cell 1
      have c2 : w1.cell? ⟨w.heap.size, 2, none⟩ = some (.int .i64 (c : Int)) := hbk.cell 2
      have c3 : w1.cell? ⟨w.heap.size, 3, none⟩ = some (.int .i64 (d : Int)) := hbk.cell 3
      have c4 : w1.cell? ⟨w.heap.size, 4, none⟩ = some (.int .i64 (e : Int)) := hbk.cell 4
      have HB2 := Lib.hid (HB1.out.trans (hb1.mono HB1.out.size))
      clear hb1 hbk
      go_wp2_with fail
      go_loop [5, 6] (fun hv i => ∃ (j h : Nat), a ≤ j ∧ j ≤ min c s.size ∧ i = .int .i64 (j : Int) ∧ hv = .int .u64 (h : Int) ∧ h < 18446744073709551616 ∧ F = goF ⟨(a : Int), b, (c : Int), d, e⟩ j h ((s.data.toList.take c).drop j)) (fun _ i => min c s.size - (intOf i).toNat)
      case atStart => exact ⟨a, 0, Nat.le_refl _, by omega, rfl, rfl, by decide, hgo.out⟩
      case round =>
        obtain ⟨j, h, haj, hor, rfl, rfl, hh, hgj⟩ := hrel
        have HGJ := Lib.hid hgj
        have HAJ := Lib.hid haj
        have HH := Lib.hid hh
        clear hgj haj hh
        by_cases hlt : j < min c s.size
        · have hjs : j < s.size := by omega
          have hjc : j < c := by omega
          have hxj : s.data.toList[j]? = some (s[j]'hjs) := by
            rw [List.getElem?_eq_getElem (by rw [HSZ.out]; omega)]
            rfl
          obtain ⟨x, hx0⟩ : ∃ x, x = s[j]'hjs := ⟨_, rfl⟩
          rw [← hx0] at hxj
          have HX0 := Lib.hid hx0
          clear hx0
          have HTD := Lib.hid (take_drop_cons (m := c) hxj hjc)
          obtain ⟨t, ht⟩ : ∃ t, t = gstep h x := ⟨_, rfl⟩
          have ht64 : t < 18446744073709551616 := by rw [ht]; exact gstep_lt _ _
          obtain ⟨g, hg⟩ : ∃ g, g = gval x.toNat := ⟨_, rfl⟩
          have hstep : IntKind.u64.wrap (IntKind.u64.wrap ((h : Int) * 2) + (g : Int)) = (t : Int) := by rw [ht]; exact gstep_u64 _ _ h g x rfl rfl hg
          have HRG := Lib.hid (ref_gear x w1)
          rw [← hg] at HRG
          have HT := Lib.hid ht
          have HT64 := Lib.hid ht64
          have hI1 : (j : Int) < (s.size : Int) := by omega
          have hI2 : (j : Int) < (c : Int) := by omega
          clear hxj ht ht64 hg hlt hor
          by_cases hjb : (j : Int) < b
          · obtain ⟨r, hr⟩ : ∃ r, r = t / 65536 % P1 := ⟨_, rfl⟩
            have HR : Hid (r = t / 65536 % 2 ^ (RuleN.mk (a : Int) b (c : Int) d e).bits j) := Lib.hid (by
              rw [hr, HP1.out]
              unfold RuleN.bits
              simp only
              rw [if_pos hjb, Int.toNat_natCast])
            have q1 := HQ1.out
            have q2 : ¬ (P1 : Int) = 0 := by have := HN1.out; omega
            have q3 := tmod_u64 t P1
            have q4 := emod_u64 t P1
            rw [← hr] at q3 q4
            clear hr
            have hjd : decide (b ≤ (j : Int)) = false := decide_eq_false (by omega)
            go_wp2_with fail
            rw [← HX0.out]
            refine HRG.out.mono ?_
            rintro eo w2 ⟨rfl, rfl⟩
            by_cases hr0 : r = 0
            · have HFJ : Hid (F = j + 1) := Lib.hid (by
                rw [HGJ.out, HTD.out]
                unfold goF
                rw [← HT.out, if_pos (hit_yes HR.out hr0)])
              have hr1 : (r : Int) = 0 := by omega
              go_wp2_with fail
              go_ret
              exact ⟨by rw [HFJ.out]; rfl, HB2.out⟩
            · have HFJ : Hid (F = goF ⟨(a : Int), b, (c : Int), d, e⟩ (j + 1) t ((s.data.toList.take c).drop (j + 1))) := Lib.hid (by
                rw [HGJ.out, HTD.out]
                rw [goF]
                rw [← HT.out, if_neg (by rw [hit_no HR.out hr0]; simp)])
              have hr1 : ¬ (r : Int) = 0 := by omega
              go_wp2_with fail
              go_round
              case rel => exact ⟨j + 1, t, by have := HAJ.out; omega, by omega, by go_num, rfl, HT64.out, HFJ.out⟩
              case measure => simp [intOf]; omega
          · obtain ⟨r, hr⟩ : ∃ r, r = t / 65536 % P2 := ⟨_, rfl⟩
            have HR : Hid (r = t / 65536 % 2 ^ (RuleN.mk (a : Int) b (c : Int) d e).bits j) := Lib.hid (by
              rw [hr, HP2.out]
              unfold RuleN.bits
              simp only
              rw [if_neg hjb, Int.toNat_natCast])
            have q1 := HQ2.out
            have q2 : ¬ (P2 : Int) = 0 := by have := HN2.out; omega
            have q3 := tmod_u64 t P2
            have q4 := emod_u64 t P2
            rw [← hr] at q3 q4
            clear hr
            have hjd : decide (b ≤ (j : Int)) = true := decide_eq_true (by omega)
            go_wp2_with fail
            rw [← HX0.out]
            refine HRG.out.mono ?_
            rintro eo w2 ⟨rfl, rfl⟩
            by_cases hr0 : r = 0
            · have HFJ : Hid (F = j + 1) := Lib.hid (by
                rw [HGJ.out, HTD.out]
                unfold goF
                rw [← HT.out, if_pos (hit_yes HR.out hr0)])
              have hr1 : (r : Int) = 0 := by omega
              go_wp2_with fail
              go_ret
              exact ⟨by rw [HFJ.out]; rfl, HB2.out⟩
            · have HFJ : Hid (F = goF ⟨(a : Int), b, (c : Int), d, e⟩ (j + 1) t ((s.data.toList.take c).drop (j + 1))) := Lib.hid (by
                rw [HGJ.out, HTD.out]
                rw [goF]
                rw [← HT.out, if_neg (by rw [hit_no HR.out hr0]; simp)])
              have hr1 : ¬ (r : Int) = 0 := by omega
              go_wp2_with fail
              go_round
              case rel => exact ⟨j + 1, t, by have := HAJ.out; omega, by omega, by go_num, rfl, HT64.out, HFJ.out⟩
              case measure => simp [intOf]; omega
        · have hjE : j = min c s.size := by omega
          have HFE : Hid (F = j) := Lib.hid (by
            rw [HGJ.out, take_drop_none (by rw [HSZ.out, ← hjE]; exact Nat.le_refl _)]
            rfl)
          by_cases hsz : s.size ≤ c
          · obtain rfl : j = s.size := by omega
            clear hjE hlt hor
            go_wp2_with fail
            go_ret
            exact ⟨by rw [HFE.out]; rfl, HB2.out⟩
          · obtain rfl : j = c := by omega
            have hI1 : (j : Int) < (s.size : Int) := by omega
            have hI2 : decide ((j : Int) < (j : Int)) = false := decide_eq_false (by omega)
            clear hjE hlt hor
            go_wp2_with fail
            go_ret
            exact ⟨by rw [HFE.out]; rfl, HB2.out⟩
end Go.Proofs.Ytkcjiogackkecaa
