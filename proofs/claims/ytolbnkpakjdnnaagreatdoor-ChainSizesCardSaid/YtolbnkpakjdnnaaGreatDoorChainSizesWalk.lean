/-
  ChainSizes: the law's walk. No statement is proved here.
-/
import Derived.Test.YtolbnkpakjdnnaaGreatDoorLinkGone
import Derived.Test.YtolbnkpakjdnnaaGreatDoorRoomAlive
import Derived.Test.YtolbnkpakjdnnaaGreatDoorRoomRead
import Derived.BigQuiet
import Derived.Deep.QuietTactic
namespace Go.Proofs.YtolbnkpakjdnnaaGreatDoor
open Go.RowKit

def fillS (s : ByteArray) (n : Nat) : List UInt8 := (List.range n).map fun i => s.data.toList.getD (i % s.size) 0
theorem fillS_len (s : ByteArray) (n : Nat) : (fillS s n).length = n := by simp [fillS]
theorem fillS_get {s : ByteArray} {n j : Nat} (h : j < n) : (fillS s n)[j]? = some (s.data.toList.getD (j % s.size) 0) := by
  unfold fillS
  rw [List.getElem?_map, List.getElem?_range h]
  rfl
theorem need_max {n : Nat} (h : n ≤ 9440) : max (((n : Int) + 235) / 236) 1 = (needN n : Int) := by
  unfold needN
  split <;> omega
theorem take_not {ps : List Int} (hn : ps.Nodup) {j : Nat} {x : Int} (hx : ps[j]? = some x) : x ∉ ps.take j := by
  intro hm
  obtain ⟨i, hi, he⟩ := List.mem_iff_getElem.1 hm
  rw [List.length_take] at hi
  have hj : j < ps.length := by
    rcases Nat.lt_or_ge j ps.length with h | h
    · exact h
    · rw [List.getElem?_eq_none h] at hx; cases hx
  rw [List.getElem_take] at he
  rw [List.getElem?_eq_getElem hj] at hx
  injection hx with hx
  exact absurd (he.trans hx.symm) (List.pairwise_iff_getElem.1 hn i j (by omega) hj (by omega))
set_option maxRecDepth 100000 in
set_option maxHeartbeats 16000000 in
theorem csizes_out (n tag : Int) (s : ByteArray) (w : World) (ho : n < 0 ∨ 9440 < n ∨ tag < 0 ∨ 200 < tag ∨ s.size < 1 ∨ 100 < s.size) :
    Calls Tryz.prog 5 #[.int .i64 n, .int .i64 tag, .string s] w fun e w' => e = .returned (.bool true) ∧ Below w.heap.size w w' := by
  have HA := Lib.hid (alive12_any w)
  obtain ⟨sz, hsz⟩ : ∃ sz, sz = s.size := ⟨_, rfl⟩
  have es : (s.size : Int) = (sz : Int) := by rw [hsz]
  rw [← hsz] at ho
  clear hsz
  by_cases g0 : n < 0
  · clear ho
    go_enter Tryz.func5, Tryz.ntmps5
    go_wp2_with (go_at_call 10; refine HA.out.mono ?_; rintro e w1 ⟨rfl, hb1⟩)
    go_ret
    exact ⟨rfl, hb1⟩
  by_cases g1 : 9440 < n
  · clear ho
    go_enter Tryz.func5, Tryz.ntmps5
    go_wp2_with (go_at_call 10; refine HA.out.mono ?_; rintro e w1 ⟨rfl, hb1⟩)
    go_ret
    exact ⟨rfl, hb1⟩
  by_cases g2 : tag < 0
  · clear ho
    go_enter Tryz.func5, Tryz.ntmps5
    go_wp2_with (go_at_call 10; refine HA.out.mono ?_; rintro e w1 ⟨rfl, hb1⟩)
    go_ret
    exact ⟨rfl, hb1⟩
  by_cases g3 : 200 < tag
  · clear ho
    go_enter Tryz.func5, Tryz.ntmps5
    go_wp2_with (go_at_call 10; refine HA.out.mono ?_; rintro e w1 ⟨rfl, hb1⟩)
    go_ret
    exact ⟨rfl, hb1⟩
  by_cases g4 : sz < 1
  · have q4 : (sz : Int) < 1 := by omega
    have q4' : sz = 0 := by omega
    clear ho g4
    go_enter Tryz.func5, Tryz.ntmps5
    go_wp2_with (go_at_call 10; refine HA.out.mono ?_; rintro e w1 ⟨rfl, hb1⟩)
    go_ret
    exact ⟨rfl, hb1⟩
  have q4 : ¬ (sz : Int) < 1 := by omega
  have q4' : ¬ sz = 0 := by omega
  have q5 : (100 : Int) < (sz : Int) := by omega
  clear ho g4
  go_enter Tryz.func5, Tryz.ntmps5
  go_wp2_with (go_at_call 10; refine HA.out.mono ?_; rintro e w1 ⟨rfl, hb1⟩)
  go_ret
  exact ⟨rfl, hb1⟩
set_option maxRecDepth 100000 in
set_option maxHeartbeats 16000000 in
theorem csizes_in (n : Nat) (tag : Int) (s : ByteArray) (w : World) (hn : n ≤ 9440) (ht0 : 0 ≤ tag) (ht1 : tag ≤ 200) (hs0 : 1 ≤ s.size) (hs1 : s.size ≤ 100) :
    Calls Tryz.prog 5 #[.int .i64 (n : Int), .int .i64 tag, .string s] w fun e w' => e = .returned (.bool true) ∧ Below w.heap.size w w' := by
  have HA := Lib.hid (alive12_any w)
  obtain ⟨sz, hsz⟩ : ∃ sz, sz = s.size := ⟨_, rfl⟩
  have es : (s.size : Int) = (sz : Int) := by rw [hsz]
  have HSZ := Lib.hid hsz
  have HFR : Hid (∀ w1, Calls Tryz.prog 11 #[.int .i64 200] w1 fun e w' => ∃ g gd K h, e = .returned (.pointer (some ⟨g, 0, none⟩)) ∧ DMk w1 w' g gd 1 200 K [] ∧ Fresh11 200 K h) := Lib.hid (fun w1 => fresh12_any (N := 200) (by omega) w1 w1 (Below.refl _ _))
  have hmk : ∀ W : World, (Instr.makeSlice 57 (.int .i64 (n : Int)) (.int .i64 (n : Int))).run Tryz.prog W = .ok (.slice (some ⟨W.heap.size, 0, none⟩) n n) (W.alloc (.cells (Lib.byteCells (zeroB n).data.toList).toArray 5)) := fun W => zeros_make W n (by omega)
  obtain ⟨M, hM⟩ : ∃ M, M = (Lib.byteCells (zeroB n).data.toList).toArray := ⟨_, rfl⟩
  rw [← hM] at hmk
  have HMS : Hid (M.size = n) := Lib.hid (by rw [hM]; simp [Lib.byteCells, zeroB_list])
  obtain ⟨B, hB⟩ : ∃ B : ByteArray, B = ⟨(fillS s n).toArray⟩ := ⟨_, rfl⟩
  have HBL : Hid (B.data.toList = fillS s n) := Lib.hid (by rw [hB])
  have HBS : Hid (B.size = n) := Lib.hid (by rw [Lib.size_eq, HBL.out, fillS_len])
  have HND := Lib.hid (fun w1 => lkneed_any (n : Int) w1 (by omega))
  rw [show needI (n : Int) = (needN n : Int) from by unfold needI; rw [if_neg (by omega), Int.toNat_natCast]] at HND
  obtain ⟨q, hq⟩ : ∃ q, q = needN n := ⟨_, rfl⟩
  rw [← hq] at HND
  have hq40 : 1 ≤ q ∧ q ≤ 40 := by rw [hq]; exact needN_le hn
  have HQ := Lib.hid hq
  have n1 : ¬ (n : Int) < 0 := by omega
  have n2 : ¬ 9440 < (n : Int) := by omega
  have n3 : ¬ tag < 0 := by omega
  have n4 : ¬ 200 < tag := by omega
  have n5 : ¬ (sz : Int) < 1 := by omega
  have n5' : ¬ sz = 0 := by omega
  have n6 : ¬ (100 : Int) < (sz : Int) := by omega
  have v1 : IntKind.i64.wrap ((n : Int) + 236) = (n : Int) + 236 := by rw [IntKind.wrap_i64]; omega
  have v2 : IntKind.i64.wrap ((n : Int) + 236 - 1) = (n : Int) + 235 := by rw [IntKind.wrap_i64]; omega
  obtain ⟨u, hu⟩ : ∃ u : Int, u = ((n : Int) + 235) / 236 := ⟨_, rfl⟩
  have v3 : ((n : Int) + 235).tdiv 236 = u := by rw [Int.tdiv_eq_ediv_of_nonneg (by omega), hu]
  have v3' : ((n : Int) + 235) / 236 = u := hu.symm
  have v4 : IntKind.i64.wrap u = u := by rw [IntKind.wrap_i64]; omega
  have v5 : max u 1 = (q : Int) := by rw [hu, hq]; exact need_max hn
  have hbb : (B.toList == B.toList) = true := by rw [same_text]; exact decide_eq_true rfl
  have htt : (tag == tag) = true := by simp
  have HFI : Hid (fitsC 3 tag = true) := Lib.hid (decide_eq_true (by omega))
  clear hsz hM hB hq hu
  go_enter Tryz.func5, Tryz.ntmps5
  go_wp2_with (go_at_call 10; refine HA.out.mono ?_; rintro e w1 ⟨rfl, hb1⟩; have HB1 := Lib.hid hb1; clear hb1)
  go_loopw [50] (fun i wr => ∃ (j : Nat) (cur : Array Value), j ≤ n ∧ i = .int .i64 j ∧ Blk wr w1.heap.size 5 cur ∧ cur.size = n ∧ cur.toList.take j = Lib.byteCells ((fillS s n).take j) ∧ Below w1.heap.size w1 wr) (fun i _ => n - (intOf i).toNat)
  case atStart => exact ⟨0, M, Nat.zero_le _, rfl, Blk.new _ _ _, HMS.out, by simp [Lib.byteCells], (Below.refl _ _).alloc (Nat.le_refl _) _⟩
  case round =>
    obtain ⟨j, cur, hj, rfl, hbk, hcs, htk, hbr⟩ := hrel
    have HBR := Lib.hid hbr
    have HBK := Lib.hid hbk
    have HCS := Lib.hid hcs
    have HTK := Lib.hid htk
    clear hbk hbr hcs htk hmk
    by_cases hlt : j < n
    · have hjI : (j : Int) < (n : Int) := by omega
      obtain ⟨t, ht⟩ : ∃ t, t = j % sz := ⟨_, rfl⟩
      have m1 : (j : Int).tmod (sz : Int) = (t : Int) := by rw [ht, Int.tmod_eq_emod_of_nonneg (by omega)]; rfl
      have m2 : (j : Int) % (sz : Int) = (t : Int) := by rw [ht]; rfl
      have htl : t < sz := by rw [ht]; exact Nat.mod_lt _ (by omega)
      have m3 : IntKind.i64.wrap (t : Int) = (t : Int) := by rw [IntKind.wrap_i64]; omega
      have htI : (t : Int) < (sz : Int) := by omega
      have hszz : ¬ (sz : Int) = 0 := by omega
      obtain ⟨x, hx⟩ : ∃ x, x = s.data.toList.getD t 0 := ⟨_, rfl⟩
      have hix : ∀ W, (Instr.index 9 (.string s) (.int .i64 (t : Int))).run Tryz.prog W = .ok (.int .u8 (x.toNat : Int)) W := fun W => index_str W s t x (by
        have hts : t < s.size := by rw [← HSZ.out]; exact htl
        rw [getElem?_pos s t hts, hx]
        congr 1
        rw [List.getD_eq_getElem?_getD, List.getElem?_eq_getElem (by rw [← Lib.size_eq]; exact hts)]
        rfl)
      have HFG : Hid ((fillS s n)[j]? = some x) := Lib.hid (by rw [fillS_get hlt, ← HSZ.out, ← ht, hx])
      obtain ⟨old, hold⟩ : ∃ old, cur[j]? = some old := ⟨_, Array.getElem?_eq_getElem (by rw [HCS.out]; exact hlt)⟩
      have k0 := (HBK.out.cell j).trans hold
      have f0 := HBK.out.frozen j
      have HLT := Lib.hid hlt
      clear ht hx hold hlt htl
      go_wp2_with fail
      refine ⟨⟨j + 1, cur.setIfInBounds j (.int .u8 (x.toNat : Int)), HLT.out, by go_num, HBK.out.put j _, by rw [Array.size_setIfInBounds]; exact HCS.out, ?_, HBR.out.setCell (Nat.le_refl _) _⟩, by have := HLT.out; simp [intOf]; omega⟩
      rw [Array.toList_setIfInBounds, List.take_add_one, List.take_set_of_le (Nat.le_refl _), List.getElem?_set_self (by rw [Array.length_toList, HCS.out]; exact HLT.out), HTK.out, List.take_add_one, HFG.out]
      simp [Lib.byteCells]
    · obtain rfl : j = n := by omega
      have HCL : Hid (cur.toList = Lib.byteCells (fillS s j)) := Lib.hid (by
        have h := HTK.out
        rw [List.take_of_length_le (by rw [Array.length_toList, HCS.out]; exact Nat.le_refl _), List.take_of_length_le (by rw [fillS_len]; exact Nat.le_refl _)] at h
        exact h)
      have HBKL : Hid (w1.heap.size < wr.heap.size) := Lib.hid HBK.out.lt
      obtain ⟨gb, hgb⟩ : ∃ gb, gb = w1.heap.size := ⟨_, rfl⟩
      have HCV : Hid (∀ W, Below wr.heap.size wr W → (convert 57 9 (.slice (some ⟨gb, 0, none⟩) j j)).run Tryz.prog W = .ok (.string B) W) := Lib.hid (fun W hW => by
        have hbk2 : Blk W gb 5 cur := by rw [hgb]; exact HBK.out.below hW HBK.out.lt
        have := run_convert_bytes_back (P := Tryz.prog) W 57 9 5 ⟨gb, 0, none⟩ j (fillS s j) Tryz.underlying57 Tryz.underlying5 Tryz.underlying9 (fun i hi => by
          rw [Go.WideShapes.add_plain, Nat.zero_add, hbk2.cell i]
          have h2 : cur[i]? = cur.toList[i]? := by rw [Array.getElem?_toList]
          rw [h2, HCL.out]
          simp [Lib.byteCells, List.getElem?_eq_getElem hi])
        rw [fillS_len] at this
        rw [this]
        congr 2
        apply ByteArray.ext
        apply Array.toList_inj.1
        rw [HBL.out])
      have HBW : Hid (Below w.heap.size w wr) := Lib.hid (HB1.out.trans (HBR.out.mono HB1.out.size))
      rw [← hgb]
      clear hgb HTK HBK HCL n1 n2 n3 n4 n5 n6 HA hj n5'
      go_wp2_with fail
      refine (HFR.out wr).mono ?_
      rintro e w2 ⟨g, gd, K, h, rfl, hs2, hf⟩
      have HS2 := Lib.hid hs2
      have HP := Lib.hid (kput_yes (gen := 3) (tag := tag) (b := B) hs2 hf.run (by omega) HFI.out (by rw [HBS.out]; omega) (by rw [fresh_len hf, HBS.out, ← HQ.out]; omega))
      have HH2 : Hid (K.H.length = 2) := Lib.hid (fresh_len hf)
      have cv2 := HCV.out w2 hs2.st.at0
      clear hs2 hf HFR
      go_wp2_with fail
      refine HP.out.mono ?_
      rintro e w3 ⟨K3, ps, rfl, hp⟩
      have hon := hp.on
      have hl : ps.length = q := by rw [hon.len, HBS.out, ← HQ.out]
      have HPY := Lib.hid hp
      have HON := Lib.hid hon
      have HLP := Lib.hid hl
      have hp0 := hon.range _ (hon.mem (i := 0) (by omega))
      obtain ⟨p0, hp00⟩ : ∃ p0, p0 = ps.getD 0 0 := ⟨_, rfl⟩
      have HP0 : Hid (I64 p0) := Lib.hid (by rw [hp00]; unfold I64; omega)
      have HP00 := Lib.hid hp00
      have HGT := Lib.hid (cget_any hp.st.st hp.run HP0.out)
      rw [HP00.out, on_getC hon, on_chainR hon, ← HP00.out] at HGT
      have HSE : Hid (∀ w1 Ms, DMk wr w1 g gd (1 + 40) 200 K3 Ms → Calls Tryz.prog 20 #[.pointer (some ⟨g, 0, none⟩), .int .i64 p0] w1 fun e w' => ∃ A c, e = .returned (.tuple #[.slice A q c, .int .i64 0]) ∧ w'.ownsRow w1.heap.size 3 1 (.slice A q c) q (ps.map (Value.int .i64)) ∧ Below w1.heap.size w1 w') := Lib.hid (fun w1 Ms hs => by
        have := csectors_any hs.st HPY.out.run HP0.out
        rw [HP00.out, on_secs HON.out, on_chainR HON.out, ← HP00.out] at this
        simp only at this
        rw [HLP.out] at this
        exact this.mono (fun e w' ⟨A, c, he, hr, _, hb⟩ => ⟨A, c, he, hr, hb⟩))
      have hin : ∀ p ∈ ps, p ∈ K3.H := fun p hm => (hp.left.mem p).2 (.inr hm)
      obtain ⟨d1, H', d2, d3, d4, d5⟩ := on_drop (N := 200) hon hp.left.once hp.run.hok hin
      have HDR : Hid (∀ w1 Ms, DMk wr w1 g gd (1 + 40) 200 K3 Ms → Calls Tryz.prog 17 #[.pointer (some ⟨g, 0, none⟩), .int .i64 p0] w1 fun e w' => e = .returned (.int .i64 0) ∧ DMk wr w' g gd (1 + 40) 200 (useK K3 H') Ms) := Lib.hid (fun w1 Ms hs => by
        have := cdrop_any hs HPY.out.run HP0.out
        rw [HP00.out, d1, d2, ← HP00.out] at this
        exact this)
      have HR4 : Hid (Run11 200 (useK K3 H') h 2) := Lib.hid (hp.run.use d3 ((d5 0).2 ⟨hp.run.ok.zero, fun hm => by have := hon.range _ hm; omega⟩) ((d5 1).2 ⟨hp.run.ok.one, fun hm => by have := hon.range _ hm; omega⟩))
      have HH' : Hid (H'.length = 2) := Lib.hid (by have h1 := hp.left.cnt; rw [HH2.out, HBS.out, ← HQ.out] at h1; rw [hl] at d4; omega)
      have HNO := Lib.hid hp.left.once
      have HS3 := Lib.hid hp.st
      rw [← hp00]
      clear hp hon hl hp0 hp00 HP hin d1 d2 d3 d4 d5 cv2 HS2
      go_wp2_with fail
      refine HGT.out.mono ?_
      rintro e w4 ⟨rfl, hb4⟩
      have HS4 := Lib.hid ((HS3.out.below hb4).hold (w' := w4.alloc (.cells #[.int .i64 3, .int .i64 tag, .int .i64 1, .string B] 43)) ((Below.refl _ _).alloc (Nat.le_refl _) _) (Nat.le_refl _) (Blk.new w4 43 #[.int .i64 3, .int .i64 tag, .int .i64 1, .string B]))
      clear hb4 HS3 HGT
      unfold chV
      simp only
      go_wp2_with fail
      refine (HSE.out _ _ HS4.out).mono ?_
      rintro e w5 ⟨A, c, rfl, hrow, hb5⟩
      have HS5 := Lib.hid (HS4.out.below hb5)
      have hk := (show Blk w5 w4.heap.size 43 #[.int .i64 3, .int .i64 tag, .int .i64 1, .string B] from HS5.out.held (by simp))
      have k0 := hk.cell 0
      have k1 := hk.cell 1
      have k2 := hk.cell 2
      have k3 := hk.cell 3
      simp at k0 k1 k2 k3
      have cv5 := HCV.out w5 HS5.out.st.at0
      obtain ⟨gr, cap, e1, _, hlt5⟩ := hrow.form (by omega)
      injection e1 with e1 _ e3
      subst e1 e3
      have HROW := Lib.hid hrow
      have hqI : (q : Int) ≤ 40 := by omega
      clear hb5 HS4 hk hrow hlt5 HSE
      go_wp2_with (go_at_call 26; refine (HND.out _).mono ?_; rintro e w6 ⟨rfl, rfl⟩)
      clear k0 k1 k2 k3 cv5
      go_loopw [16] (fun i wx => ∃ (i' : Nat), i' ≤ q ∧ i = .int .i64 i' ∧ Below w6.heap.size w6 wx) (fun i _ => q - (intOf i).toNat)
      case atStart => exact ⟨0, Nat.zero_le _, rfl, Below.refl _ _⟩
      case round =>
        obtain ⟨i', hi', rfl, hbx⟩ := hrel
        have HBX := Lib.hid hbx
        clear hbx
        by_cases hlt : i' < q
        · have hiI : (i' : Int) < (q : Int) := by omega
          obtain ⟨x, hx⟩ : ∃ x, ps[i']? = some x := ⟨_, List.getElem?_eq_getElem (by rw [HLP.out]; exact hlt)⟩
          have hxr := HON.out.range x (List.mem_of_getElem? hx)
          have hx2 : decide (x < 2) = false := decide_eq_false (by omega)
          have hx2' : ¬ x < 2 := by omega
          have HROWX := Lib.hid (row_below HROW.out HBX.out)
          have cx := row_cell HROWX.out (i := i') (u := .int .i64 x) (by rw [List.getElem?_map, hx]; rfl)
          have HAM : Hid (∀ k, Calls Tryz.prog 21 #[.slice (some ⟨gr, 0, none⟩) i' c, .int .i64 x] (wr.drewN k) fun e w' => e = .returned (.bool false) ∧ w' = wr.drewN k) := Lib.hid (fun k => by
            have hI : Ints (wr.drewN k) (wr.drewN k).heap.size (some ⟨gr, 0, none⟩) (ps.take i') := fun hp => ⟨gr, 0, rfl, World.block_lt_of_cell? _ _ cx, fun k2 y hy => by
              rw [Nat.zero_add]
              rw [List.getElem?_take] at hy
              split at hy
              · exact (show (wr.drewN k).cell? _ = _ from row_cell HROWX.out (by rw [List.getElem?_map, hy]; rfl))
              · cases hy⟩
            have := ramong_any x (some ⟨gr, 0, none⟩) c i' (ps.take i') (wr.drewN k) (by rw [List.length_take, HLP.out]; omega) hI (by omega)
            rwa [decide_eq_false (take_not HNO.out hx)] at this)
          obtain ⟨pc, capc, ec, hc1, hc2, -, -⟩ := row_slice HROW.out
          injection ec with ec1 ec2 ec3
          have hci : (i' : Int) ≤ (c : Int) := by omega
          have hcm : (c : Int) ≤ 9223372036854775807 := by omega
          have hci' : i' ≤ c := by omega
          have HLT := Lib.hid hlt
          clear hx hxr hlt ec1 ec2 ec3 hc1 hc2
          go_wp2_with fail
          go_quiet (first | (go_at_call 21; with_reducible refine Calls.quiet_of_same (HAM.out _)))
          go_wp2_with fail
          refine ⟨⟨i' + 1, HLT.out, by go_num, below_drewN HBX.out _⟩, by have := HLT.out; simp [intOf]; omega⟩
        · obtain rfl : i' = q := by omega
          have HSX := Lib.hid (HS5.out.below HBX.out)
          clear hlt hi'
          go_wp2_with fail
          refine (HDR.out _ _ HSX.out).mono ?_
          rintro e w7 ⟨rfl, hs7⟩
          have HS7 := Lib.hid hs7
          clear hs7
          go_wp2_with fail
          refine (dmk_room HS7.out HR4.out).mono ?_
          rintro e w8 ⟨rfl, -, hb8⟩
          have HS8 := Lib.hid (HS7.out.below hb8)
          clear hb8
          go_wp2_with fail
          refine (dmk_room HS8.out HR4.out).mono ?_
          rintro e w9 ⟨rfl, hr9, hb9⟩
          have HS9 := Lib.hid (HS8.out.below hb9)
          have HFE := Lib.hid (rfree_any hr9)
          have hfe : (((200 - 111 : Nat) : Int) - ((useK K3 H').H.length : Int)) = 87 := by show ((89 : Int) - (H'.length : Int)) = 87; rw [HH'.out]; rfl
          rw [hfe] at HFE
          clear hr9 hb9 hfe
          go_wp2_with fail
          refine HFE.out.mono ?_
          rintro e w10 ⟨rfl, rfl⟩
          go_wp2_with fail
          go_ret
          exact ⟨rfl, HBW.out.trans (HS9.out.st.at0.mono HBW.out.size)⟩
theorem csizes_any (n tag : Int) (s : ByteArray) (w : World) (_ : -9223372036854775808 ≤ n ∧ n ≤ 9223372036854775807) (_ : -9223372036854775808 ≤ tag ∧ tag ≤ 9223372036854775807) (_ : s.size ≤ 140737488351232) :
    Calls Tryz.prog 5 #[.int .i64 n, .int .i64 tag, .string s] w fun e w' => e = .returned (.bool true) ∧ Below w.heap.size w w' := by
  by_cases ho : n < 0 ∨ 9440 < n ∨ tag < 0 ∨ 200 < tag ∨ s.size < 1 ∨ 100 < s.size
  · exact csizes_out n tag s w ho
  · obtain ⟨n', rfl⟩ : ∃ m : Nat, n = (m : Int) := ⟨n.toNat, by omega⟩
    exact csizes_in n' tag s w (by omega) (by omega) (by omega) (by omega) (by omega)
end Go.Proofs.YtolbnkpakjdnnaaGreatDoor
