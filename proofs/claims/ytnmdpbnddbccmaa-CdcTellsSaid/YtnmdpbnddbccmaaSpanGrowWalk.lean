/-
  masonrybook's growSpans. No statement is proved here.
-/
import Derived.Test.YtnmdpbnddbccmaaSpanGrow
namespace Go.Proofs.Ytnmdpbnddbccmaa
open Go.RowKit

theorem hspanrows_info : (Try.prog.info? 42).map (fun i => (i.zero, i.size, i.bytes)) = some (some (.slice none 0 0), 1, 24) := by kernel_rfl

set_option maxRecDepth 100000 in
set_option maxHeartbeats 8000000 in
theorem sgrow_any (g B : Nat) (p : Option Addr) (k cp : Nat) (zs : List LS) (w : World) (hg : g < w.heap.size) (hB : B ≤ w.heap.size) (h2 : w.cell? ⟨g, 4, none⟩ = some (.slice p k cp))
    (hk : zs.length = k) (hp : RowAt w p (zs.map LS.val)) (hb : k ≤ 1000) (hr : RowsS w B zs) (hfg : FreeS zs g) (hfp : ∀ a, p = some a → FreeS zs a.block) (hn : ∀ l ∈ zs, l.xs.length ≤ 900000)
    (hm : ∀ (i : Nat) (z : LS), zs[i]? = some z → z.xs = marksS i 0 z.xs.length) (hz : ∀ (a : Nat) (z : LS), zs[a]? = some z → Spans w w.heap.size z.A z.xs) :
    Calls Try.prog 50 #[.pointer (some ⟨g, 0, none⟩)] w fun e w' => ∃ v gs, e = .returned v ∧ GrowStS w w' B zs gs k ∧ w'.ownsRow w.heap.size 42 1 v k (gs.map LS.val) := by
  obtain ⟨i0, hi0, hz0, hz1, hz2⟩ := info_parts hspans_info
  obtain ⟨i1, hi1, hy0, hy1, hy2⟩ := info_parts hspanrows_info
  have HC : Hid (∀ w', KeptS zs B w w' → w'.cell? ⟨g, 4, none⟩ = some (.slice p k cp)) := Lib.hid (fun w' hw => (hw.cell (p := ⟨g, 4, none⟩) hg hfg).trans h2)
  have HK := Lib.hid hk
  have HP := Lib.hid hp
  have HFP := Lib.hid hfp
  have HN := Lib.hid hn
  have HBS := Lib.hid hB
  have HR := Lib.hid hr
  have HM := Lib.hid hm
  have HS := Lib.hid (GrowStS.start hr hz)
  have hkI : (k : Int) ≤ 1000 := by omega
  clear hk hp hfp hr h2 hfg hn hB hm hz
  go_enter Try.func50, Try.ntmps50
  go_wp2_with fail
  go_loopw [3, 4] (fun o i wr => ∃ (j : Nat) (gs : List LS), j ≤ k ∧ i = .int .i64 j ∧ GrowStS w wr B zs gs j ∧ wr.ownsRow w.heap.size 42 1 o j (gs.map LS.val)) (fun _ i _ => k - (intOf i).toNat)
  case atStart => exact ⟨0, [], Nat.zero_le _, rfl, HS.out, World.ownsRow_nil _ _ _ _⟩
  case round =>
    obtain ⟨i, gs, hi, rfl, hst, hov⟩ := hrel
    obtain ⟨oA, oC, rfl, -, -, ho0, hoa⟩ := krow_form hov
    have HST := Lib.hid hst
    have HOV := Lib.hid hov
    have c2 := HC.out _ hst.kept
    have HBW : Hid (B ≤ wr.heap.size) := Lib.hid (Nat.le_trans HBS.out hst.kept.below.size)
    clear hst hov HS ho0 hoa
    by_cases hlt : i < k
    · obtain ⟨z, hz⟩ : ∃ z, zs[i]? = some z := ⟨zs[i]'(by rw [HK.out]; exact hlt), List.getElem?_eq_getElem _⟩
      have hll := HN.out z (List.mem_of_getElem? hz)
      have hzm := HM.out i z hz
      obtain ⟨b, off, rfl, hbl, hcl⟩ := HP.out (by rw [List.length_map, HK.out]; omega)
      have hcc := hcl i z.val (by rw [List.getElem?_map, hz]; rfl)
      have hcx : wr.cell? ⟨b, off + i, none⟩ = some z.val := (HST.out.kept.cell (p := ⟨b, off + i, none⟩) hbl (show FreeS zs b from HFP.out ⟨b, off, none⟩ rfl)).trans hcc
      have hzo := HST.out.left i z hz (Nat.le_refl _)
      obtain ⟨pp, cc, ee, -, -, h0, hza⟩ := krow_form hzo
      have hA : ∀ a, z.A = some a → a = ⟨a.block, 0, none⟩ := fun a ha => hza a (by unfold LS.val at ee; injection ee with ee _ _; rw [← ee]; exact ha)
      obtain ⟨n, hnn⟩ : ∃ n, n = z.xs.length := ⟨_, rfl⟩
      have HZL : Hid (∀ b', z.val.ownBlock = some b' → b' < w.heap.size) := Lib.hid (fun b' hb' => ((HR.out.own i z hz).lt b' hb').2)
      have HZS := Lib.hid hz
      have HZA := Lib.hid hA
      have HXN : Hid (z.xs = marksS i 0 n) := Lib.hid (by rw [hnn]; exact hzm)
      have HG0 : Hid (GrowAtS wr wr B z i n 0 z.val) := Lib.hid ⟨by rw [Nat.add_zero, hnn, ← hzm]; exact hzo, .inl rfl, HST.out.zspans i z hz, KeptS.refl _ _ _⟩
      have hval : z.val = .slice z.A n z.c := by unfold LS.val; rw [hnn]
      rw [hval] at hcx HG0
      obtain ⟨zA, hzA⟩ : ∃ a, a = z.A := ⟨_, rfl⟩
      obtain ⟨zc, hzc⟩ : ∃ a, a = z.c := ⟨_, rfl⟩
      rw [← hzA, ← hzc] at hcx HG0
      have hiI : (i : Int) < (k : Int) := by omega
      have hnI : n ≤ 900000 := by omega
      obtain ⟨W1, hW1⟩ : ∃ W, W = wr := ⟨_, rfl⟩
      have HG1 : Hid (GrowAtS W1 wr B z i n 0 (.slice zA n zc)) := by rw [hW1]; exact HG0
      have HBW1 : Hid (B ≤ W1.heap.size) := by rw [hW1]; exact HBW
      have HST1 : Hid (GrowStS w W1 B zs gs i) := by rw [hW1]; exact HST
      have HOV1 : Hid (W1.ownsRow w.heap.size 42 1 (.slice oA i oC) i (gs.map LS.val)) := by rw [hW1]; exact HOV
      clear hz hll hzm hbl hcl hcc hzo ee h0 hza hA hnn hval hzA hzc HG0 HBW HST HOV hW1
      go_wp2_with fail
      clear hcx c2
      go_loopw [5, 6] (fun l q wq => ∃ t : Nat, t ≤ 12 ∧ q = .int .i64 t ∧ GrowAtS W1 wq B z i n t l) (fun _ q _ => 12 - (intOf q).toNat)
      case atStart => exact ⟨0, Nat.zero_le _, rfl, HG1.out⟩
      case round =>
        obtain ⟨t, ht, rfl, hga⟩ := hrel
        obtain ⟨lp, lc, rfl, -, -, -, -⟩ := krow_form hga.row
        have HGA := Lib.hid hga
        have HBQ : Hid (B ≤ wr.heap.size) := Lib.hid (Nat.le_trans HBW1.out hga.kept.below.size)
        clear hga HG1
        by_cases htt : t < 12
        · have HMK : Hid (∀ W, Calls Try.prog 77 #[.int .i64 i, .int .i64 ((n + t : Nat) : Int), .int .i64 1] W fun e w' => ∃ v, e = .returned v ∧ w'.ownsRow W.heap.size 52 2 v 1 (flatS (marksS i (n + t) 1)) ∧ Below W.heap.size W w') := Lib.hid (fun W => smark_any i (n + t) 1 W (by omega) (by omega) (by omega))
          have htI : (t : Int) < 12 := by omega
          go_wp2_with fail
          refine (HMK.out _).mono ?_
          rintro e w2 ⟨v, rfl, hmr, hb2⟩
          obtain ⟨mp, mc, rfl, -, -, hm0, hma⟩ := krow_form hmr
          obtain ⟨mg, rfl⟩ : ∃ mg, mp = some ⟨mg, 0, none⟩ := by
            rcases mp with _ | a
            · exact absurd (hm0 rfl) (by omega)
            · exact ⟨a.block, by rw [← hma a rfl]⟩
          have hga2 := HGA.out.below HBQ.out hb2
          have hB2 : B ≤ w2.heap.size := Nat.le_trans HBQ.out hb2.size
          obtain ⟨gd, cap, w3, hrun, hown, hlt3, hwh⟩ := run_append_twoS (P := Try.prog) w2 42 42 B 52 i0 (.agg #[.int .i64 0, .int .i64 0]) 16 Try.underlying42 hi0 hz0 hz1 hz2 rfl (.slice lp (n + t) lc) (n + t) _ hga2.row ⟨mg, 0, none⟩ 1 mc (flatS (marksS i (n + t) 1)) (by rw [flatS_len, marksS_length]) (hmr.cells (g := mg) rfl) flatS_one (by omega) (by unfold maxLen; omega) (by omega) hB2
          have HRUN := Lib.hid hrun
          have HGN : Hid (GrowAtS W1 w3 B z i n (t + 1) (.slice (some ⟨gd, 0, none⟩) (n + (t + 1)) cap)) := Lib.hid (hga2.append hB2 HXN.out HZA.out hown hwh)
          clear hmr hm0 hma hga2 hrun hown hwh hb2
          go_wp2_with (at_builtin; refine wpList_value rfl (exec_append rfl rfl rfl HRUN.out) ?_)
          go_roundw
          case rel => exact ⟨t + 1, by omega, by go_num, HGN.out⟩
          case measure => simp [intOf]; omega
        · obtain rfl : t = 12 := by omega
          have HMK : Hid (∀ W, Calls Try.prog 77 #[.int .i64 i, .int .i64 ((n + 12 : Nat) : Int), .int .i64 60] W fun e w' => ∃ v, e = .returned v ∧ w'.ownsRow W.heap.size 52 2 v 60 (flatS (marksS i (n + 12) 60)) ∧ Below W.heap.size W w') := Lib.hid (fun W => smark_any i (n + 12) 60 W (by omega) (by omega) (by omega))
          go_wp2_with fail
          refine (HMK.out _).mono ?_
          rintro e w2 ⟨v, rfl, hmr, hb2⟩
          obtain ⟨mp, mc, rfl, -, -, hm0, hma⟩ := krow_form hmr
          obtain ⟨mg, rfl⟩ : ∃ mg, mp = some ⟨mg, 0, none⟩ := by
            rcases mp with _ | a
            · exact absurd (hm0 rfl) (by omega)
            · exact ⟨a.block, by rw [← hma a rfl]⟩
          have hga2 := HGA.out.below HBQ.out hb2
          have hB2 : B ≤ w2.heap.size := Nat.le_trans HBQ.out hb2.size
          obtain ⟨gd, cap, w3, hrun, hown, hlt3, hwh⟩ := run_append_twoS (P := Try.prog) w2 42 42 B 52 i0 (.agg #[.int .i64 0, .int .i64 0]) 16 Try.underlying42 hi0 hz0 hz1 hz2 rfl (.slice lp (n + 12) lc) (n + 12) _ hga2.row ⟨mg, 0, none⟩ 60 mc (flatS (marksS i (n + 12) 60)) (by rw [flatS_len, marksS_length]) (hmr.cells (g := mg) rfl) flatS_one (by omega) (by unfold maxLen; omega) (by omega) hB2
          have HRUN := Lib.hid hrun
          have HGN : Hid (GrowAtS W1 w3 B z i n (12 + 60) (.slice (some ⟨gd, 0, none⟩) (n + (12 + 60)) cap)) := Lib.hid (hga2.append hB2 HXN.out HZA.out hown hwh)
          clear hmr hm0 hma hga2 hrun hown hwh hb2
          have hov3 : w3.ownsRow w.heap.size 42 1 (.slice oA i oC) i (gs.map LS.val) := row_kept' HOV1.out fun q hq => HGN.out.kept.block q (HOV1.out.lt q hq).2 (freeS_one fun e => by have := HZL.out q e; have := (HOV1.out.lt q hq).1; omega)
          have hst3 := HST1.out.next HR.out HZS.out (by omega) HGN.out
          obtain ⟨gl, hgl⟩ : ∃ gl : LS, gl = ⟨some ⟨gd, 0, none⟩, cap, marksS i 0 (n + (12 + 60))⟩ := ⟨_, rfl⟩
          rw [← hgl] at hst3
          have hglv : gl.val = .slice (some ⟨gd, 0, none⟩) (n + 12 + 60) cap := by rw [hgl]; unfold LS.val; simp only [marksS_length]
          have hst4 : GrowStS w (w3.alloc (.cells #[.slice (some ⟨gd, 0, none⟩) (n + 12 + 60) cap] 42)) B zs (gs ++ [gl]) (i + 1) := GrowStS.grown (row := none) hst3 HR.out HBS.out (by_alloc (by_refl _ _) _) (fun q e => by cases e) (fun q e => by cases e)
          have hov4 := hov3.alloc (.cells #[.slice (some ⟨gd, 0, none⟩) (n + 12 + 60) cap] 42)
          have hws : w.heap.size ≤ w3.heap.size := hst3.kept.below.size
          have HST4 := Lib.hid hst4
          have HOV4 := Lib.hid hov4
          have HGL := Lib.hid hglv
          clear hov3 hst3 hst4 hov4 hgl hglv
          go_wp2_with (first
            | (at_builtin; refine wpList_value rfl (exec_append rfl rfl rfl HRUN.out) ?_)
            | (at_builtin; refine wpList_append_lies _ rfl (.tmp 33) (.tmp 40) 34 rfl w.heap.size 42 i1 (.slice none 0 0) 1 24 Try.underlying34 hi1 hy0 hy1 hy2 rfl (by omega) _ i _ rfl HOV4.out ⟨w3.heap.size, 0, none⟩ 1 1 [.slice (some ⟨gd, 0, none⟩) (n + 12 + 60) cap] rfl rfl ?c1 ?c2 (by omega) (by unfold maxLen; omega) (by omega) (by simp; omega) _ rfl ?_))
          case c1 =>
            intro a u ha
            match a, ha with
            | 0, ha => simp at ha; subst ha; simp [Addr.add]
          case c2 => intro u hu; simp at hu; subst hu; rfl
          intro g2 cap2 w5 hown5 hg5 hor5 hlt5
          have HST5 : Hid (GrowStS w w5 B zs (gs ++ [gl]) (i + 1)) := Lib.hid (HST4.out.grown HR.out HBS.out hg5 (fun q e => (HOV4.out.lt q e).1) (fun q e l hl hq => by
            obtain ⟨a, ha⟩ := List.mem_iff_getElem?.1 hl
            exact rows_kindsS (HST4.out.rows a l ha).1 HOV4.out q hq e))
          have HOV5 : Hid (w5.ownsRow w.heap.size 42 1 (.slice (some ⟨g2, 0, none⟩) (i + 1) cap2) (i + 1) ((gs ++ [gl]).map LS.val)) := Lib.hid (by rw [List.map_append, List.map_cons, List.map_nil, HGL.out]; exact hown5)
          clear hown5 hg5 hor5 hlt5
          go_wp2_with fail
          go_roundw
          case rel => exact ⟨i + 1, gs ++ [gl], by omega, by go_num, HST5.out, HOV5.out⟩
          case measure => simp [intOf]; omega
    · obtain rfl : i = k := by omega
      go_wp2_with fail
      go_ret
      exact ⟨_, gs, rfl, HST.out, HOV.out⟩
end Go.Proofs.Ytnmdpbnddbccmaa
