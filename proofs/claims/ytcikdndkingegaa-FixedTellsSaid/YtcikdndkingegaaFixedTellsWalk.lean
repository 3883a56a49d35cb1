/-
  FixedTells, walked. No statement is proved here.
-/
import Derived.Test.YtcikdndkingegaaFixedTellsMid
import Derived.Deep.CutBlock
import Derived.Deep.CutRange
namespace Go.Proofs.Ytcikdndkingegaa
open Go.RowKit

set_option maxRecDepth 100000 in
set_option maxHeartbeats 16000000 in
theorem ftellslaw_any (n : Int) (A : Option Addr) (m c : Nat) (xs : List ByteArray) (s : ByteArray) (D : Option Addr) (md d : Nat) (ds : List OpS) (size a b : Int) (w : World)
    (hn : -9223372036854775808 ≤ n ∧ n ≤ 9223372036854775807) (hin : TextsIn w A m c xs) (hs : s.size ≤ 140737488351232) (hds : ActsSIn w D md d ds)
    (_hz : -9223372036854775808 ≤ size ∧ size ≤ 9223372036854775807) (_ha : -9223372036854775808 ≤ a ∧ a ≤ 9223372036854775807) (_hb : -9223372036854775808 ≤ b ∧ b ≤ 9223372036854775807) :
    Calls Try.prog 3 #[.int .i64 n, .slice A m c, .string s, .slice D md d, .int .i64 size, .int .i64 a, .int .i64 b] w fun e w' => e = .returned (.bool true) ∧ Below w.heap.size w w' := by
  obtain ⟨sp, hspd⟩ : ∃ sp, sp = spansOf ds := ⟨_, rfl⟩
  have hsp : Spans w w.heap.size D sp := by rw [hspd]; exact hds.lie.spans
  have hmd : sp.length = md := by rw [hspd, spansOf_len]; exact hds.len
  have hd0 : D = none → d = 0 := fun h => (hds.nil_ h).2
  have hfewd : md ≤ 9223372036854775807 := hds.few
  have HIN := Lib.hid hin
  have HSP := Lib.hid hsp
  have HMD := Lib.hid hmd
  have HD0 := Lib.hid hd0
  have HNB := Lib.hid hn
  clear hin hds hspd hsp hmd hd0 hn
  go_enter Try.func3, Try.ntmps3
  go_wp2_with fail
  refine (short_any 12 2000 A m c xs _ HIN.out.len HIN.out.lie HIN.out.short HIN.out.few (by omega) (by omega) (by omega) (by omega)).mono ?_
  rintro e w1 ⟨⟨r, rfl, hr⟩, hb1⟩
  cases r with
  | false =>
    clear hr
    go_wp2_with fail
    refine (alive13_any _).mono ?_
    rintro e w2 ⟨rfl, hb2⟩
    have hb2' := hb1.trans (hb2.mono hb1.size)
    clear hb1 hb2
    go_wp2_with fail
    go_ret
    exact ⟨rfl, hb2'⟩
  | true =>
  have HR := Lib.hid (hr rfl)
  have HB1 := Lib.hid hb1
  clear hr hb1
  by_cases hs1 : 1000 < s.size
  · have hs1' : (1000 : Int) < (s.size : Int) := by omega
    go_wp2_with fail
    refine (alive13_any _).mono ?_
    rintro e w2 ⟨rfl, hb2⟩
    have hb2' := HB1.out.trans (hb2.mono HB1.out.size)
    clear hb2
    go_wp2_with fail
    go_ret
    exact ⟨rfl, hb2'⟩
  have hs1' : decide ((1000 : Int) < (s.size : Int)) = false := decide_eq_false (by omega)
  by_cases hm1 : 60 < md
  · have hm1' : (60 : Int) < (md : Int) := by omega
    go_wp2_with fail
    refine (alive13_any _).mono ?_
    rintro e w2 ⟨rfl, hb2⟩
    have hb2' := HB1.out.trans (hb2.mono HB1.out.size)
    clear hb2
    go_wp2_with fail
    go_ret
    exact ⟨rfl, hb2'⟩
  have hm1' : decide ((60 : Int) < (md : Int)) = false := decide_eq_false (by omega)
  go_wp2_with fail
  refine (alive13_any _).mono ?_
  rintro e w2 ⟨rfl, hb2⟩
  have HB2 := Lib.hid (HB1.out.trans (hb2.mono HB1.out.size))
  clear hb2
  have hm12 : m ≤ 12 := by have := HR.out.1; rw [HIN.out.len] at this; omega
  obtain ⟨S, hS⟩ : ∃ S, S = (cats xs).length := ⟨_, rfl⟩
  have HSS := Lib.hid hS
  have hS2 : S ≤ 2000 := by have := HR.out.2; rw [← HSS.out] at this; omega
  obtain ⟨cs, hcs⟩ : ∃ cs, cs = cutS n S := ⟨_, rfl⟩
  obtain ⟨M, hM⟩ : ∃ M, M = cs.length := ⟨_, rfl⟩
  have hM2 : M ≤ 2000 := by
    rw [hM, hcs]
    unfold cutS
    split
    · simp
    · rw [cutJ_len]
      have := many_few (m := n.toNat) (size := S) (by omega)
      omega
  have HCS := Lib.hid hcs
  have HM := Lib.hid hM
  obtain ⟨w3, hw3⟩ : ∃ w', w' = w2.alloc (.cells (bookS (.slice none 0 0) (.slice none 0 0)) 36) := ⟨_, rfl⟩
  have HBK3 : Hid (Blk w3 w2.heap.size 36 (bookS (.slice none 0 0) (.slice none 0 0))) := Lib.hid (by rw [hw3]; exact Blk.new w2 _ _)
  have HB3 : Hid (Below w.heap.size w w3) := Lib.hid (by rw [hw3]; exact HB2.out.alloc HB2.out.size _)
  have HWG : Hid (w.heap.size ≤ w2.heap.size) := Lib.hid HB2.out.size
  have HW3 := Lib.hid hw3
  clear hS hcs hM hw3
  have HLT := Lib.hid (lent_any A m c xs w3 HIN.out.len ((HIN.out.lie.below HB3.out).more HB3.out.size) (by omega) HIN.out.nil_)
  go_upto_region 4 with fail
  rw [show w2.alloc (.cells #[.slice none 0 0, .slice none 0 0, .slice none 0 0, .slice none 0 0, .slice none 0 0, .slice none 0 0, .slice none 0 0, .slice none 0 0, .slice none 0 0, .slice none 0 0, .slice none 0 0, .slice none 0 0, .slice none 0 0, .slice none 0 0, .slice none 0 0, .slice none 0 0] 36) = w3 from HW3.out.symm]
  have hzs : (s.size : Int) ≤ 1000 := by omega
  have hmdI : (md : Int) ≤ 60 := by omega
  clear hs1' hm1' hs1 hm1
  go_wp2_with fail
  refine HLT.out.mono ?_
  rintro e w4 ⟨g1, cap1, rfl, hl1, hb4⟩
  have HB34 := Lib.hid hb4
  have HB4 := Lib.hid (HB3.out.trans (hb4.mono HB3.out.size))
  have HL1 := Lib.hid hl1
  have HLS := Lib.hid (slent_any D md d sp w4 HMD.out ((HSP.out.below HB4.out).more HB4.out.size) (by omega) HD0.out)
  clear hl1 hb4 HLT
  go_wp2_with fail
  refine HLS.out.mono ?_
  rintro e w5 ⟨g2, cap2, rfl, hl2, hb5⟩
  have HB5 := Lib.hid (HB4.out.trans (hb5.mono HB4.out.size))
  have HB45 := Lib.hid hb5
  have HL2 := Lib.hid hl2
  have HL15 := Lib.hid (HL1.out.below hb5)
  have HBK5 : Hid (Blk w5 w2.heap.size 36 (bookS (.slice none 0 0) (.slice none 0 0))) := Lib.hid ((HBK3.out.below HB34.out HBK3.out.lt).below hb5 (HBK3.out.below HB34.out HBK3.out.lt).lt)
  have HJOIN := Lib.hid (join_any A m c xs w5 HIN.out.len ((HIN.out.lie.below HB5.out).more HB5.out.size) (by omega) (by rw [← HSS.out]; omega))
  clear hl2 hb5 HLS HL1
  go_wp2_with fail
  refine HJOIN.out.mono ?_
  rintro e w5' ⟨rfl, rfl⟩
  have HJS : Hid ((joined xs).size = S) := Lib.hid (by rw [joined_size, HSS.out])
  obtain ⟨al, hal⟩ : ∃ al, al = joined xs := ⟨_, rfl⟩
  rw [← hal] at HJS
  rw [← hal]
  clear hal HJOIN
  have hjs : (al.size : Int) = (S : Int) := by have := HJS.out; omega
  have hcut := fcut_any n (some ⟨g1, 0, none⟩) m cap1 xs w5 HNB.out HIN.out.len HL15.out.txts (by omega) (by rw [← HSS.out]; omega)
  rw [← HSS.out, ← HCS.out, ← HM.out] at hcut
  have HCUT := Lib.hid hcut
  clear hcut
  go_wp2_with fail
  refine HCUT.out.mono ?_
  rintro e w6 ⟨p, cap, rfl, hown6, hb6⟩
  have HOWN6 := Lib.hid hown6
  have HB56 := Lib.hid hb6
  have HB6 := Lib.hid (HB5.out.trans (hb6.mono HB5.out.size))
  have HBK6 : Hid (Blk w6 w2.heap.size 36 (bookS (.slice none 0 0) (.slice none 0 0))) := Lib.hid (HBK5.out.below hb6 HBK5.out.lt)
  have HADD : Hid (Calls Try.prog 12 #[.pointer (some ⟨w2.heap.size, 0, none⟩), .slice p M cap] w6 fun e w' => e = .returned (.tuple #[]) ∧ SpansAt w2.heap.size w2.heap.size 1 [⟨p, cap, cs⟩] w' ∧ Below w2.heap.size w6 w' ∧ ∀ b, b < w6.heap.size → b ≠ w2.heap.size → w'.heap[b]? = w6.heap[b]?) := Lib.hid (by
    have hv : (LS.mk p cap cs).val = .slice p M cap := by unfold LS.val; rw [← HM.out]
    have h := spans_first HBK6.out (Nat.le_refl _) ⟨p, cap, cs⟩ w5.heap.size (Nat.le_of_lt HBK5.out.lt) (by rw [hv]; simp only; rw [← HM.out]; exact hown6) (by simp only; rw [← HM.out]; omega)
    rw [hv] at h
    exact h)
  clear hown6 hb6 HCUT
  go_wp2_with fail
  refine HADD.out.mono ?_
  rintro e w7 ⟨rfl, hat7, hb7, hsame7⟩
  have hg1 : g1 ≠ w2.heap.size := by have := HL15.out.1; have := HBK3.out.lt; omega
  have hg2 : g2 ≠ w2.heap.size := by have := HL2.out.1; have := HBK3.out.lt; have := HB34.out.size; omega
  have HB7 : Hid (Below w.heap.size w w7) := Lib.hid (HB6.out.trans (hb7.mono HWG.out))
  have HAT7 := Lib.hid hat7
  have HL17 : Hid (Lent w7 w3.heap.size g1 cap1 xs) := Lib.hid ((HL15.out.below HB56.out).same hb7.size (hsame7 g1 (HL15.out.below HB56.out).2.1 hg1))
  have HL27 : Hid (LentS w7 w4.heap.size g2 cap2 sp) := Lib.hid ((HL2.out.below HB56.out).same hb7.size (hsame7 g2 (HL2.out.below HB56.out).2.1 hg2))
  have HOWN7 : Hid (w7.ownsRow w5.heap.size 47 2 (.slice p M cap) M (flatS cs)) := Lib.hid (row_kept' HOWN6.out fun k hk => hsame7 k (HOWN6.out.lt k hk).2 (by have := (HOWN6.out.lt k hk).1; have := HBK5.out.lt; omega))
  clear hat7 hb7 hsame7 hg1 hg2 HADD HOWN6 HBK6 HBK5 HBK3 HL15 HL2
  go_wp2_with fail
  refine (rfixed_any n S w7 HNB.out (by omega)).mono ?_
  rw [← HCS.out, ← HM.out]
  rintro e w8 ⟨p8, cap8, rfl, hown8, hb8⟩
  have HB78 := Lib.hid hb8
  have HSM := Lib.hid (ssame_any p p8 M cap cap8 cs w8 HM.out.symm ((row_spans (by rw [← HM.out]; exact HOWN7.out) |>.below hb8).more hb8.size) (row_spans (by rw [← HM.out]; exact hown8)) (by omega))
  clear hown8 hb8
  go_wp2_with fail
  refine HSM.out.mono ?_
  rintro e w9 ⟨rfl, q9, hq9⟩
  have hb9 : Below w7.heap.size w7 w9 := by rw [hq9]; exact HB78.out.trans (below_drawn _ _ _)
  have HB79 := Lib.hid hb9
  obtain ⟨V, hV⟩ : ∃ V, V = wholeB size sp := ⟨_, rfl⟩
  have hfw := fwhole_any size (some ⟨g2, 0, none⟩) md cap2 sp w9 HMD.out ((HL27.out.below hb9).spans) (by omega)
  rw [← hV] at hfw
  have HFW := Lib.hid hfw
  clear hb9 hq9 HSM HB78 hfw
  go_wp2_with fail
  refine HFW.out.mono ?_
  rintro e w10 ⟨rfl, hb10⟩
  have HB710 := Lib.hid (HB79.out.trans (hb10.mono HB79.out.size))
  have HB10 := Lib.hid (HB7.out.trans (HB710.out.mono HB7.out.size))
  have hrw := rwhole_any size D md d sp w10 HMD.out ((HSP.out.below HB10.out).more HB10.out.size) (by omega)
  rw [← hV] at hrw
  have HRW := Lib.hid hrw
  clear hb10 HFW HB79 hrw hV
  go_wp2_with fail
  refine HRW.out.mono ?_
  rintro e w11 ⟨rfl, rfl⟩
  have HSPA : Hid (∀ wx, Below w10.heap.size w10 wx → ∀ (j : Nat) (x0 x1 : Int), sp[j]? = some (x0, x1) → ∃ b off, D = some ⟨b, off, none⟩ ∧ wx.cell? ⟨b, off + j * 2, none⟩ = some (.int .i64 x0) ∧ wx.cell? ⟨b, off + j * 2 + 1, none⟩ = some (.int .i64 x1)) := Lib.hid (fun wx hx j x0 x1 hj => by
    obtain ⟨b, off, e, hl, hc⟩ := HSP.out (by
      rcases Nat.lt_or_ge j sp.length with h | h
      · omega
      · rw [List.getElem?_eq_none h] at hj; cases hj)
    obtain ⟨c0, c1⟩ := hc j _ hj
    have hB := HB10.out.trans (hx.mono HB10.out.size)
    exact ⟨b, off, e, (hB.cell (p := ⟨b, off + j * 2, none⟩) hl).trans c0, (hB.cell (p := ⟨b, off + j * 2 + 1, none⟩) hl).trans c1⟩)
  clear HRW
  have hVV : (V != V) = false := by cases V <;> rfl
  go_upto_block 0 with fail
  go_cut [20, 21, 22] from 80 to 138 (fun u v i wx => ∃ (W : ByteArray) (gd : Bool) (wy : World), wy = wx ∧ u = .string W ∧ v = .bool gd ∧ WantEnd s sp W gd ∧ Below w10.heap.size w10 wx)
  case first =>
    as_aux_lemma =>
    go_wp2_with fail
    go_loopw [20, 21, 22] (fun u v i wr => ∃ (j : Nat) (W : ByteArray) (gd : Bool), j ≤ md ∧ i = .int .i64 j ∧ u = .string W ∧ v = .bool gd ∧ WantSt s sp j W gd ∧ Below w10.heap.size w10 wr) (fun _ _ i _ => md - (intOf i).toNat)
    case atStart => exact ⟨0, ⟨#[]⟩, true, Nat.zero_le _, rfl, rfl, rfl, WantSt.start _ _, Below.refl _ _⟩
    case round =>
      obtain ⟨j, W, gd, hj, rfl, rfl, rfl, hst, hbr⟩ := hrel
      have HST := Lib.hid hst
      have HBR := Lib.hid hbr
      clear hst hbr
      by_cases hlt : j < md
      · cases gd with
        | false =>
          go_wp2_with fail
          go_meet
          exact ⟨W, false, _, rfl, rfl, rfl, HST.out.end_ (fun h => by cases h), HBR.out⟩
        | true =>
          obtain ⟨x0, x1, hxj⟩ := spans_get HMD.out hlt
          obtain ⟨bb, off, hA, e0, e1⟩ := HSPA.out wr HBR.out j x0 x1 hxj
          have HXJ := Lib.hid hxj
          clear hxj
          subst hA
          cases hgood : okSp s.size (x0, x1) with
          | false =>
            have HE := Lib.hid (HST.out.bad HXJ.out hgood (j + 1))
            have hbad : x0 < 0 ∨ x1 < x0 ∨ (s.size : Int) < x1 := by
              unfold okSp at hgood
              simp only [decide_eq_false_iff_not] at hgood
              omega
            clear hgood
            by_cases h1 : x0 < 0
            · have h1' : decide (0 ≤ x0) = false := decide_eq_false (by omega)
              clear hbad
              go_wp2_with fail
              go_quiet (fail)
              go_wp2_with fail
              go_roundw
              case rel => exact ⟨j + 1, W, false, by omega, by go_num, rfl, rfl, HE.out, HBR.out.trans (below_drawn _ _ _)⟩
              case measure => simp [intOf]; omega
            · have h1' : decide (0 ≤ x0) = true := decide_eq_true (by omega)
              by_cases h2 : x1 < x0
              · have h2' : decide (x0 ≤ x1) = false := decide_eq_false (by omega)
                clear hbad
                go_wp2_with fail
                go_quiet (fail)
                go_wp2_with fail
                go_roundw
                case rel => exact ⟨j + 1, W, false, by omega, by go_num, rfl, rfl, HE.out, HBR.out.trans (below_drawn _ _ _)⟩
                case measure => simp [intOf]; omega
              · have h2' : decide (x0 ≤ x1) = true := decide_eq_true (by omega)
                have h3' : decide (x1 ≤ (s.size : Int)) = false := decide_eq_false (by omega)
                clear hbad
                go_wp2_with fail
                go_quiet (fail)
                go_wp2_with fail
                go_roundw
                case rel => exact ⟨j + 1, W, false, by omega, by go_num, rfl, rfl, HE.out, HBR.out.trans (below_drawn _ _ _)⟩
                case measure => simp [intOf]; omega
          | true =>
            have HE := Lib.hid (HST.out.good HXJ.out hgood)
            obtain ⟨h1, h2, h3⟩ : 0 ≤ x0 ∧ x0 ≤ x1 ∧ x1 ≤ (s.size : Int) := by unfold okSp at hgood; simpa using hgood
            obtain ⟨y0, rfl⟩ := Int.eq_ofNat_of_zero_le h1
            obtain ⟨y1, rfl⟩ := Int.eq_ofNat_of_zero_le (show 0 ≤ x1 by omega)
            have g2 : y0 ≤ y1 := by omega
            have g3 : y1 ≤ s.size := by omega
            have hwz := HST.out.size
            have hpz := partB_size s ((y0 : Int), (y1 : Int))
            obtain ⟨T, hT⟩ : ∃ T, T = s.extract y0 y1 := ⟨_, rfl⟩
            have hT2 : T = partB s ((y0 : Int), (y1 : Int)) := by rw [hT]; rfl
            rw [← hT2] at HE hpz
            have hroom : W.size + T.size ≤ 9223372036854775807 := by omega
            have HT := Lib.hid hT
            have HDEC : Hid (Value.bool (decide ((W.size : Int) + ((y1 - y0 : Nat) : Int) ≤ 20000)) = Value.bool (decide ((W ++ T).size ≤ 20000))) := Lib.hid (by
              rw [ByteArray.size_append, hT, ByteArray.size_extract, Nat.min_eq_left g3]
              congr 1
              rw [decide_eq_decide]
              omega)
            clear hgood h1 hT2 hT
            go_wp2_with fail
            go_quiet (fail)
            go_wp2_with fail
            go_quiet (fail)
            go_wp2_with fail
            go_roundw
            case rel => exact ⟨j + 1, W ++ T, _, by omega, by go_num, by rw [HT.out], HDEC.out, HE.out, HBR.out.trans (below_drawn _ _ _)⟩
            case measure => simp [intOf]; omega
      · obtain rfl : j = md := by omega
        go_wp2_with fail
        go_meet
        exact ⟨W, gd, _, rfl, rfl, rfl, HST.out.end_ (fun _ => HMD.out.symm), HBR.out⟩
  case rest =>
  obtain ⟨W, gd, wc, rfl, rfl, rfl, hwe, hbw⟩ := hcut
  have HWEND := Lib.hid hwe
  have HBW := Lib.hid hbw
  have HFJ := Lib.hid (fjoin_any s (some ⟨g2, 0, none⟩) md cap2 sp wc HMD.out ((HL27.out.below (HB710.out.trans (hbw.mono HB710.out.size))).spans) (by omega) (by omega))
  clear hwe hbw
  go_upto_if 139 with fail
  go_cut [23, 24, 25, 26] from 140 to 167 (fun u1 u2 u3 u4 wx => ∃ wy, wy = wx ∧ Below w10.heap.size w10 wy)
  case first =>
    as_aux_lemma =>
    rcases HWEND.out with ⟨rfl, hW2, hall⟩ | ⟨rfl, ⟨hall, hsz⟩ | hsz⟩
    · have hj := HFJ.out
      rw [if_pos hall] at hj
      have HJ := Lib.hid hj
      clear hj hall
      rw [← hW2] at HJ
      have hself : (W.toList == W.toList) = true := by simp
      clear hW2
      go_wp2_with fail
      refine HJ.out.mono ?_
      rintro e wz ⟨rfl, hbz⟩
      go_wp2_with fail
      go_meet
      exact ⟨_, rfl, HBW.out.trans (hbz.mono HBW.out.size)⟩
    · have hj := HFJ.out
      rw [if_neg (by rw [hall]; simp)] at hj
      have HJ := Lib.hid hj
      have hszI : (W.size : Int) ≤ 20000 := by omega
      clear hj hall
      go_wp2_with fail
      refine HJ.out.mono ?_
      rintro e wz ⟨rfl, hbz⟩
      go_wp2_with fail
      go_meet
      exact ⟨_, rfl, HBW.out.trans (hbz.mono HBW.out.size)⟩
    · have hszI : decide ((W.size : Int) ≤ 20000) = false := decide_eq_false (by omega)
      go_wp2_with fail
      go_meet
      exact ⟨_, rfl, HBW.out⟩
  case rest =>
  obtain ⟨wd, rfl, hbd⟩ := hcut
  clear HFJ HBW HWEND
  have HB7d := Lib.hid (HB710.out.trans (hbd.mono HB710.out.size))
  have HOWNd := Lib.hid (row_kept' HOWN7.out fun k hk => HB7d.out.block k (HOWN7.out.lt k hk).2)
  have HSPd : Hid (Spans wd wd.heap.size p cs) := Lib.hid (row_spans (by rw [← HM.out]; exact HOWNd.out))
  obtain ⟨t0, ht0⟩ : ∃ t, t = (touchTo cs a b M).1 := ⟨_, rfl⟩
  obtain ⟨t1, ht1⟩ : ∃ t, t = (touchTo cs a b M).2 := ⟨_, rfl⟩
  have hT := ftouch_any a b p M cap cs wd HM.out.symm HSPd.out (by omega)
  rw [← ht0, ← ht1] at hT
  have HTT := Lib.hid hT
  have HT0 := Lib.hid ht0
  have HT1 := Lib.hid ht1
  clear hT ht0 ht1 hbd
  go_wp2_with fail
  refine HTT.out.mono ?_
  rintro e we ⟨rfl, hbe⟩
  have HB7e := Lib.hid (HB7d.out.trans (hbe.mono HB7d.out.size))
  have HSPe : Hid (Spans we we.heap.size p cs) := Lib.hid ((HSPd.out.below hbe).more hbe.size)
  clear hbe HTT HOWNd HSPd HB7d
  have HWH : Hid (∃ E, wholeEnd cs = some E) := Lib.hid (by
    rw [HCS.out]
    by_cases h : n < 1
    · refine ⟨0, ?_⟩
      unfold cutS
      rw [if_pos h]
      rfl
    · exact ⟨_, cutS_whole n S (by omega)⟩)
  go_wp2_with fail
  go_loopw [29, 30, 31] (fun u v i wr => ∃ (j : Nat) (x y : Int), j ≤ M ∧ i = .int .i64 j ∧ u = .int .i64 x ∧ v = .int .i64 y ∧ touchTo cs a b j = (x, y) ∧ we = wr) (fun _ _ i _ => M - (intOf i).toNat)
  case atStart => exact ⟨0, 0, 0, Nat.zero_le _, rfl, rfl, rfl, rfl, rfl⟩
  case round =>
    obtain ⟨j, x, y, hj, rfl, rfl, rfl, ht, rfl⟩ := hrel
    have HT := Lib.hid ht
    clear ht
    by_cases hlt : j < M
    · obtain ⟨x0, x1, hxj⟩ := spans_get HM.out.symm hlt
      obtain ⟨bb, off, hA, hbB, hc⟩ := HSPe.out (by rw [← HM.out]; omega)
      obtain ⟨d0, d1⟩ := hc j _ hxj
      simp only at d0 d1
      have hx01 : x0 < x1 := by
        obtain ⟨E, hE⟩ := HWH.out
        exact (wend_step hE hxj).2.1
      have HS := Lib.hid (touchTo_snoc (a := a) (b := b) hxj)
      have hno : ¬ (a < b ∧ x0 < b ∧ a < x1) → touchTo cs a b (j + 1) = (x, y) := fun h => by
        rw [HS.out, HT.out]
        unfold tstep
        simp only
        rw [if_pos (by omega)]
      have HNO := Lib.hid hno
      clear hno hxj hc
      subst hA
      by_cases q1 : x0 < b
      · by_cases q2 : a < x1
        · by_cases q3 : a < b
          · have hge : ¬ max x0 a ≥ min x1 b := by omega
            by_cases hy0 : y = 0
            · subst hy0
              have HE : Hid (touchTo cs a b (j + 1) = ((j : Int), (j : Int) + 1)) := Lib.hid (by rw [HS.out, HT.out]; unfold tstep; simp only; rw [if_neg hge, if_pos trivial])
              clear hge
              go_wp2_with fail
              go_roundw
              case rel => exact ⟨j + 1, _, _, by omega, by go_num, rfl, rfl, HE.out, trivial⟩
              case measure => simp [intOf]; omega
            · have HE : Hid (touchTo cs a b (j + 1) = (x, (j : Int) + 1)) := Lib.hid (by rw [HS.out, HT.out]; unfold tstep; simp only; rw [if_neg hge, if_neg hy0])
              clear hge
              go_wp2_with fail
              go_roundw
              case rel => exact ⟨j + 1, _, _, by omega, by go_num, rfl, rfl, HE.out, trivial⟩
              case measure => simp [intOf]; omega
          · have HE := Lib.hid (HNO.out (by omega))
            have q3' : decide (a < b) = false := decide_eq_false q3
            go_wp2_with fail
            go_roundw
            case rel => exact ⟨j + 1, _, _, by omega, by go_num, rfl, rfl, HE.out, trivial⟩
            case measure => simp [intOf]; omega
        · have HE := Lib.hid (HNO.out (by omega))
          have q2' : decide (a < x1) = false := decide_eq_false q2
          go_wp2_with fail
          go_roundw
          case rel => exact ⟨j + 1, _, _, by omega, by go_num, rfl, rfl, HE.out, trivial⟩
          case measure => simp [intOf]; omega
      · have HE := Lib.hid (HNO.out (by omega))
        have q1' : decide (x0 < b) = false := decide_eq_false q1
        go_wp2_with fail
        go_roundw
        case rel => exact ⟨j + 1, _, _, by omega, by go_num, rfl, rfl, HE.out, trivial⟩
        case measure => simp [intOf]; omega
    · obtain rfl : j = M := by omega
      obtain ⟨k0, k1⟩ : t0 = x ∧ t1 = y := by rw [HT0.out, HT1.out, HT.out]; exact ⟨rfl, rfl⟩
      subst k0 k1
      have HBe := Lib.hid (HB7.out.trans (HB7e.out.mono HB7.out.size))
      have HST := Lib.hid (stays_any g1 cap1 A m c xs w3.heap.size we HIN.out.len (HL17.out.below HB7e.out) ((HIN.out.lie.below HBe.out).more HBe.out.size) (by omega))
      go_wp2_with fail
      refine HST.out.mono ?_
      rintro e wf ⟨rfl, qf, hqf⟩
      have HB7f : Hid (Below w7.heap.size w7 wf) := Lib.hid (by rw [hqf]; exact HB7e.out.trans (below_drawn _ _ _))
      have HBf := Lib.hid (HB7.out.trans (HB7f.out.mono HB7.out.size))
      have HSS2 := Lib.hid (sstays_any g2 cap2 D md d sp w4.heap.size wf HMD.out (HL27.out.below HB7f.out) ((HSP.out.below HBf.out).more HBf.out.size) (by omega))
      clear hqf
      go_wp2_with fail
      refine HSS2.out.mono ?_
      rintro e wh ⟨rfl, qh, hqh⟩
      have HB7h : Hid (Below w7.heap.size w7 wh) := Lib.hid (by rw [hqh]; exact HB7f.out.trans (below_drawn _ _ _))
      have HBh := Lib.hid (HB7.out.trans (HB7h.out.mono HB7.out.size))
      have HAP := Lib.hid ((HAT7.out.below HB7h.out).apart (by omega))
      clear hqh
      go_wp2_with fail
      refine HAP.out.mono ?_
      rintro e wi ⟨rfl, hbi⟩
      go_wp2_with fail
      go_ret
      exact ⟨rfl, HBh.out.trans (hbi.mono HWG.out)⟩
end Go.Proofs.Ytcikdndkingegaa
