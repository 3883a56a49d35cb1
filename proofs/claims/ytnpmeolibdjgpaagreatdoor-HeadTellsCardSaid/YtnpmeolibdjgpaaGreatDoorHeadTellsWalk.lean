/-
  HeadTells: the law's own walk. No statement is proved here.
-/
import Derived.Test.YtnpmeolibdjgpaaGreatDoorBookAt
import Derived.Test.YtnpmeolibdjgpaaGreatDoorRefPut
import Derived.Test.YtnpmeolibdjgpaaGreatDoorPutOnce
import Derived.Test.YtnpmeolibdjgpaaGreatDoorRefRead
import Derived.Test.YtnpmeolibdjgpaaGreatDoorHeadNextOwn
import Derived.Test.YtnpmeolibdjgpaaGreatDoorHeadAlike
import Derived.Test.YtnpmeolibdjgpaaGreatDoorHeadAlive
import Derived.Test.YtnpmeolibdjgpaaGreatDoorHeadTellsMid
import Derived.Deep.DeepCutAuto
namespace Go.Proofs.YtnpmeolibdjgpaaGreatDoor
open Go.RowKit

set_option maxRecDepth 100000 in
set_option maxHeartbeats 8000000 in
theorem htells_in (q : Int) (full : Bool) (A : Option Addr) (n c : Nat) (ts : List Int) (X : Option Addr) (m cx : Nat) (ns : List Int) (b : ByteArray) (own : Bool) (w : World)
    (hn : ts.length = n) (hA : Ints w w.heap.size A ts) (hA0 : A = none → n = 0 ∧ c = 0) (hm : ns.length = m) (hX : Ints w w.heap.size X ns) (hX0 : X = none → m = 0 ∧ cx = 0) (h1 : n ≤ 200) (h2 : m ≤ 200) (h3 : b.size ≤ 600) :
    Calls Tryz.prog 3 #[.int .i64 q, .bool full, .slice A n c, .slice X m cx, .string b, .bool own] w fun e w' => e = .returned (.bool true) ∧ Below w.heap.size w w' := by
  have HAI := Lib.hid hA
  have HN := Lib.hid hn
  have HA0 := Lib.hid hA0
  have HXI := Lib.hid hX
  have HM := Lib.hid hm
  have HX0 := Lib.hid hX0
  have n1 : (n : Int) ≤ 200 := by omega
  have m1 : (m : Int) ≤ 200 := by omega
  have s1 : (b.size : Int) ≤ 600 := by omega
  clear hA hn hA0 hX hm hX0 h3
  go_enter Tryz.func3, Tryz.ntmps3
  go_wp2_with fail
  refine (alive8_any _).mono ?_
  rintro e w1 ⟨rfl, hb1⟩
  have HB1 := Lib.hid hb1
  clear hb1
  go_upto_if 48 with fail
  go_cut [4] (fun s wx => ∃ b2, s = .string b2 ∧ Below w1.heap.size w1 wx)
  case first =>
    cases own with
    | false =>
      go_wp2_with fail
      go_meet
      exact ⟨b, rfl, Below.refl _ _⟩
    | true =>
      obtain ⟨d, hd⟩ : ∃ d : Nat, d = min b.size 252 := ⟨_, rfl⟩
      have hdI : min (b.size : Int) 252 = (d : Int) := by omega
      have hd2 : (d : Int) ≤ (b.size : Int) := by omega
      obtain ⟨P, hP⟩ : ∃ P, P = b.extract 0 d := ⟨_, rfl⟩
      have HSEAL : Hid (∃ S k, Calls Tryz.prog 9 #[.int .i64 256, .string (b.extract 0 d)] w1 fun e w' => e = .returned (.tuple #[.string S, .int .i64 k]) ∧ Below w1.heap.size w1 w') := Lib.hid (by
        obtain ⟨S, k, e⟩ : ∃ S k, sealV 256 (b.extract 0 d).data.toList = .tuple #[.string S, .int .i64 k] := ⟨_, _, rfl⟩
        refine ⟨S, k, ?_⟩
        rw [← e]
        exact ref_seal 256 (b.extract 0 d) w1 (by rw [ByteArray.size_extract]; omega))
      obtain ⟨S, k, hseal⟩ := HSEAL.out
      have HSEAL := Lib.hid hseal
      clear hseal hP hd
      go_wp2_with fail
      refine HSEAL.out.mono ?_
      rintro e w2 ⟨rfl, hb2⟩
      go_wp2_with fail
      go_meet
      exact ⟨S, rfl, hb2⟩
  case rest =>
    obtain ⟨b2, rfl, hbc⟩ := hcut
    have HB2 : Hid (Below w.heap.size w wc) := Lib.hid (HB1.out.trans (hbc.mono HB1.out.size))
    have HL1 : Hid (Calls Tryz.prog 10 #[.slice A n c] wc fun e w' => ∃ g cap, e = .returned (.slice (some ⟨g, 0, none⟩) n cap) ∧ LentK w' wc.heap.size g cap ts ∧ Below wc.heap.size wc w') := Lib.hid (klent_any A n c ts wc HN.out ((HAI.out.below HB2.out).more HB2.out.size) (by omega) (fun h => (HA0.out h).2))
    have HL2 : Hid (∀ wx, Below wc.heap.size wc wx → Calls Tryz.prog 10 #[.slice X m cx] wx fun e w' => ∃ g cap, e = .returned (.slice (some ⟨g, 0, none⟩) m cap) ∧ LentK w' wx.heap.size g cap ns ∧ Below wx.heap.size wx w') := Lib.hid (fun wx hx => klent_any X m cx ns wx HM.out ((HXI.out.below (HB2.out.trans (hx.mono HB2.out.size))).more (Nat.le_trans HB2.out.size hx.size)) (by omega) (fun h => (HX0.out h).2))
    clear hbc
    go_wp2_with fail
    refine HL1.out.mono ?_
    rintro e w3 ⟨g1, cap1, rfl, hl1, hb3⟩
    have HLENT1 := Lib.hid hl1
    have HB3 := Lib.hid hb3
    clear hl1 hb3
    go_wp2_with fail
    refine (HL2.out _ HB3.out).mono ?_
    rintro e w4 ⟨g2, cap2, rfl, hl2, hb4⟩
    have HLENT2 := Lib.hid hl2
    have HB4 := Lib.hid hb4
    clear hl2 hb4
    go_upto_region 8 with fail
    obtain ⟨w5, hw5⟩ : ∃ w5, w5 = (w4.alloc (.cells #[.int .i64 q, .bool full, .slice (some ⟨g1, 0, none⟩) n cap1] 29)).alloc (.cells #[.int .i64 q, .bool full, .slice A n c] 30) := ⟨_, rfl⟩
    rw [← hw5]
    obtain ⟨G, hG⟩ : ∃ G, G = w4.heap.size := ⟨_, rfl⟩
    have HS5 : Hid (w5.heap.size = G + 2) := Lib.hid (by rw [hw5, hG]; simp)
    have HBK1 : Hid (Blk w5 G 29 #[.int .i64 q, .bool full, .slice (some ⟨g1, 0, none⟩) n cap1]) := Lib.hid (by rw [hw5, hG]; exact (Blk.new w4 _ _).alloc _)
    have HBK2 : Hid (Blk w5 (G + 1) 30 #[.int .i64 q, .bool full, .slice A n c]) := Lib.hid (by
      rw [hw5, hG]
      have := Blk.new (w4.alloc (.cells #[.int .i64 q, .bool full, .slice (some ⟨g1, 0, none⟩) n cap1] 29)) 30 #[.int .i64 q, .bool full, .slice A n c]
      rwa [show (w4.alloc (.cells #[.int .i64 q, .bool full, .slice (some ⟨g1, 0, none⟩) n cap1] 29)).heap.size = w4.heap.size + 1 by simp] at this)
    have HB45 : Hid (Below w4.heap.size w4 w5) := Lib.hid (by rw [hw5]; exact ((Below.refl _ _).alloc (Nat.le_refl _) _).alloc (by simp) _)
    have HB5 : Hid (Below w.heap.size w w5) := Lib.hid (by
      have k1 := HB2.out.trans (HB3.out.mono HB2.out.size)
      have k2 := k1.trans (HB4.out.mono k1.size)
      exact k2.trans (HB45.out.mono k2.size))
    have HLE1 : Hid (LentK w5 wc.heap.size g1 cap1 ts) := Lib.hid ((HLENT1.out.below HB4.out).below HB45.out)
    have HLE2 : Hid (LentK w5 w3.heap.size g2 cap2 ns) := Lib.hid (HLENT2.out.below HB45.out)
    have HT5 : Hid (Ints w5 w5.heap.size A ts) := Lib.hid ((HAI.out.below HB5.out).more HB5.out.size)
    have HN5 : Hid (Ints w5 w5.heap.size X ns) := Lib.hid ((HXI.out.below HB5.out).more HB5.out.size)
    rw [← hG]
    clear hw5 hG HLENT1 HLENT2 HB45 HB4 HB3 HL2 HL1 HAI HXI
    obtain ⟨V, hV⟩ : ∃ V, V = (HD.mk q full ts).validB := ⟨_, rfl⟩
    obtain ⟨T, hT⟩ : ∃ T, T = bs (HD.mk q full ts).text := ⟨_, rfl⟩
    have hva : (HD.mk q full ts).val (some ⟨g1, 0, none⟩) cap1 = .agg #[.int .i64 q, .bool full, .slice (some ⟨g1, 0, none⟩) n cap1] := by unfold HD.val; simp only; rw [HN.out]
    have hvb : (HD.mk q full ts).val A c = .agg #[.int .i64 q, .bool full, .slice A n c] := by unfold HD.val; simp only; rw [HN.out]
    have hat : ∀ wx, Below w5.heap.size w5 wx → (HD.mk q full ts).At wx (some ⟨g1, 0, none⟩) cap1 := fun wx hx => ⟨(HLE1.out.ints.below hx).more hx.size, by show ts.length ≤ _; rw [HN.out]; omega⟩
    have hbt : ∀ wx, Below w5.heap.size w5 wx → (HD.mk q full ts).At wx A c := fun wx hx => ⟨(HT5.out.below hx).more hx.size, by show ts.length ≤ _; rw [HN.out]; omega⟩
    have HLAY : Hid (∀ wx, Below w5.heap.size w5 wx → Calls Tryz.prog 11 #[.agg #[.int .i64 q, .bool full, .slice (some ⟨g1, 0, none⟩) n cap1]] wx fun e w' => e = .returned (if V then .tuple #[.string T, .int .i64 0] else .tuple #[.string ⟨#[]⟩, .int .i64 1]) ∧ Below wx.heap.size wx w') := Lib.hid (fun wx hx => by rw [← hva, hV, hT]; exact hlay_any _ _ _ wx (hat wx hx))
    have HVAL : Hid (∀ wx, Below w5.heap.size w5 wx → Calls Tryz.prog 13 #[.agg #[.int .i64 q, .bool full, .slice (some ⟨g1, 0, none⟩) n cap1]] wx fun e w' => e = .returned (.bool V) ∧ Below wx.heap.size wx w') := Lib.hid (fun wx hx => by rw [← hva, hV]; exact hvalid_any _ _ _ wx (hat wx hx))
    have HRVAL : Hid (∀ wx, Below w5.heap.size w5 wx → Calls Tryz.prog 12 #[.agg #[.int .i64 q, .bool full, .slice A n c]] wx fun e w' => e = .returned (.bool V) ∧ Below wx.heap.size wx w') := Lib.hid (fun wx hx => by rw [← hvb, hV]; exact rvalid_any _ _ _ wx (hbt wx hx))
    have HRLAY : Hid (V = true → ∀ wx, Below w5.heap.size w5 wx → Calls Tryz.prog 14 #[.agg #[.int .i64 q, .bool full, .slice A n c]] wx fun e w' => e = .returned (.string T) ∧ Below wx.heap.size wx w') := Lib.hid (fun hv wx hx => by rw [← hvb, hT]; exact rlay_any _ (HD.valid_of (by rw [← hV]; exact hv)) _ _ wx (hbt wx hx))
    have HDONE : Hid (∀ wx, Calls Tryz.prog 23 #[.agg #[.int .i64 q, .bool full, .slice (some ⟨g1, 0, none⟩) n cap1]] wx fun e w' => e = .returned (.agg #[.int .i64 q, .bool false, .slice none 0 0]) ∧ Below wx.heap.size wx w') := Lib.hid (fun wx => by rw [← hva]; exact hdone_any _ _ _ wx)
    have HCELLS : Hid (∀ wx, Below w5.heap.size w5 wx → wx.cell? ⟨G, 0, none⟩ = some (.int .i64 q) ∧ wx.cell? ⟨G, 1, none⟩ = some (.bool full) ∧ wx.cell? ⟨G, 2, none⟩ = some (.slice (some ⟨g1, 0, none⟩) n cap1) ∧ wx.cell? ⟨G + 1, 0, none⟩ = some (.int .i64 q) ∧ wx.cell? ⟨G + 1, 1, none⟩ = some (.bool full) ∧ wx.cell? ⟨G + 1, 2, none⟩ = some (.slice A n c)) := Lib.hid (fun wx hx => by
      have k1 := HBK1.out.below hx HBK1.out.lt
      have k2 := HBK2.out.below hx HBK2.out.lt
      exact ⟨k1.cell 0, k1.cell 1, k1.cell 2, k2.cell 0, k2.cell 1, k2.cell 2⟩)
    have HTV := Lib.hid hV
    clear hV hT hva hvb hat hbt
    obtain ⟨S, k, hSK⟩ : ∃ (S : ByteArray) (k : Int), (if V then Value.tuple #[.string T, .int .i64 0] else .tuple #[.string ⟨#[]⟩, .int .i64 1]) = .tuple #[.string S, .int .i64 k] ∧ (V = true → S = T ∧ k = 0) ∧ (V = false → S = ⟨#[]⟩ ∧ k = 1) := by
      cases V with
      | true => exact ⟨T, 0, rfl, fun _ => ⟨rfl, rfl⟩, fun h => by cases h⟩
      | false => exact ⟨⟨#[]⟩, 1, rfl, (fun h => by cases h), fun _ => ⟨rfl, rfl⟩⟩
    rw [hSK.1] at HLAY
    have HSK := Lib.hid hSK.2
    clear hSK
    obtain ⟨c0, c1, c2, c3, c4, c5⟩ := HCELLS.out w5 (Below.refl _ _)
    go_wp2_with fail
    refine (HLAY.out _ (Below.refl _ _)).mono ?_
    rintro e w6 ⟨rfl, hb6⟩
    obtain ⟨c0, c1, c2, c3, c4, c5⟩ := HCELLS.out w6 hb6
    go_wp2_with fail
    refine (HRVAL.out _ hb6).mono ?_
    rintro e w7 ⟨rfl, hb7⟩
    have hw7 := hb6.trans (hb7.mono hb6.size)
    have HW7 := Lib.hid hw7
    clear c0 c1 c2 c3 c4 c5 hb6 hb7 hw7
    obtain ⟨c0, c1, c2, c3, c4, c5⟩ := HCELLS.out w7 HW7.out
    go_upto_region 10 with fail
    go_cut [105] (fun r wx => r = .bool false ∧ Below w5.heap.size w5 wx)
    case first =>
      go_wp2_with fail
      refine (HVAL.out _ HW7.out).mono ?_
      rintro e w8 ⟨rfl, hb8⟩
      have HW8 := Lib.hid (HW7.out.trans (hb8.mono HW7.out.size))
      clear c0 c1 c2 c3 c4 c5 hb8
      obtain ⟨c0, c1, c2, c3, c4, c5⟩ := HCELLS.out w8 HW8.out
      cases V with
      | true =>
        obtain ⟨rfl, rfl⟩ := HSK.out.1 rfl
        go_wp2_with fail
        refine (HRLAY.out (by first | rfl | trivial) _ HW8.out).mono ?_
        rintro e w9 ⟨rfl, hb9⟩
        have HW9 := Lib.hid (HW8.out.trans (hb9.mono HW8.out.size))
        clear c0 c1 c2 c3 c4 c5 hb9
        go_wp2_with fail
        go_meet
        exact ⟨rfl, HW9.out⟩
      | false =>
        obtain ⟨rfl, rfl⟩ := HSK.out.2 rfl
        go_wp2_with fail
        go_meet
        exact ⟨rfl, HW8.out⟩
    case rest =>
    obtain ⟨rfl, hbc⟩ := hcut
    have HWC := Lib.hid hbc
    clear hbc c0 c1 c2 c3 c4 c5 HLAY HVAL HRVAL HRLAY HSK
    obtain ⟨hs, hf, hts, K, hHK⟩ : ∃ hs hf hts K, readHD b2.data.toList = (HD.mk hs hf hts, K) := ⟨_, _, _, _, rfl⟩
    obtain ⟨hn, hhn⟩ : ∃ hn, hn = hts.length := ⟨_, rfl⟩
    have HREAD : Hid (∀ W, Calls Tryz.prog 15 #[.string b2] W fun e w' => ∃ A c, e = .returned (.tuple #[.agg #[.int .i64 hs, .bool hf, .slice A hn c], .int .i64 K]) ∧ w'.ownsRow W.heap.size 3 1 (.slice A hn c) hn (hts.map (Value.int .i64)) ∧ hn ≤ 110 ∧ Below W.heap.size W w') := Lib.hid (fun W => by
      refine (hread_own b2 W).mono ?_
      rw [hHK]
      rintro e w' ⟨A, c, rfl, h1, h2, h3⟩
      simp only at h1 h2
      rw [← hhn] at h1 h2
      refine ⟨A, c, ?_, h1, h2, h3⟩
      unfold HD.val
      simp only
      rw [hhn])
    have HRREAD : Hid (∀ W, Calls Tryz.prog 16 #[.string b2] W fun e w' => ∃ A c, e = .returned (.tuple #[.agg #[.int .i64 hs, .bool hf, .slice A hn c], .int .i64 K]) ∧ w'.ownsRow W.heap.size 3 1 (.slice A hn c) hn (hts.map (Value.int .i64)) ∧ Below W.heap.size W w') := Lib.hid (fun W => by
      refine (rread_own b2 W).mono ?_
      rw [refRead_eq, hHK]
      rintro e w' ⟨A, c, rfl, h1, h2, h3⟩
      simp only at h1 h2
      rw [← hhn] at h1 h2
      refine ⟨A, c, ?_, h1, h3⟩
      unfold HD.val
      simp only
      rw [hhn])
    have HSAME : Hid (∀ W A c A' c', W.ownsRow w5.heap.size 3 1 (.slice A hn c) hn (hts.map (Value.int .i64)) → W.ownsRow w5.heap.size 3 1 (.slice A' hn c') hn (hts.map (Value.int .i64)) → hn ≤ 110 → Calls Tryz.prog 18 #[.agg #[.int .i64 hs, .bool hf, .slice A hn c], .agg #[.int .i64 hs, .bool hf, .slice A' hn c']] W fun e w' => e = .returned (.bool true) ∧ Below W.heap.size W w') := Lib.hid (fun W A c A' c' h1 h2 h3 => by
      rw [hhn] at h1 h2 h3 ⊢
      exact halike_any (HD.mk hs hf hts) A c A' c' W ⟨row_ints h1, by show hts.length ≤ _; omega⟩ ⟨row_ints h2, by show hts.length ≤ _; omega⟩)
    have HHN := Lib.hid hhn
    clear hHK hhn
    obtain ⟨g, hg⟩ : ∃ g, g = wc.heap.size := ⟨_, rfl⟩
    have hbook := BookAt.start wc
    unfold bookI at hbook
    rw [← hg] at hbook
    have HBOOK := Lib.hid hbook
    have HG : Hid (w5.heap.size ≤ g) := Lib.hid (by rw [hg]; exact HWC.out.size)
    have HGW : Hid (Below w5.heap.size w5 (wc.alloc (.cells (bookI (.slice none 0 0) (.slice none 0 0)) 45))) := Lib.hid (HWC.out.alloc HWC.out.size _)
    unfold bookI at HGW
    clear hbook
    go_upto_region 13 with fail
    rw [← hg]
    clear hg
    go_wp2_with fail
    go_loopw [21] (fun i wr => ∃ (j : Nat) (ls : List LI), j ≤ 2 ∧ i = .int .i64 j ∧ BookAt g g j ls wr ∧ Below w5.heap.size w5 wr) (fun i _ => 2 - (intOf i).toNat)
    case atStart => exact ⟨0, [], by omega, rfl, HBOOK.out, HGW.out⟩
    case round =>
      obtain ⟨j, ls, hj, rfl, hbk, hwr⟩ := hrel
      have HBK := Lib.hid hbk
      have HWR := Lib.hid hwr
      clear hbk hwr HBOOK HGW
      by_cases hlt : j < 2
      · have hltI : (j : Int) < 2 := by omega
        go_wp2_with fail
        refine (HREAD.out _).mono ?_
        rintro e wa ⟨xA, xc, rfl, hxr, hx110, hba⟩
        have HXR := Lib.hid hxr
        have HBA := Lib.hid hba
        clear hxr hba
        go_upto_region 17 with fail
        obtain ⟨wb, hwb⟩ : ∃ wb, wb = wa.alloc (.cells #[.int .i64 hs, .bool hf, .slice xA hn xc] 29) := ⟨_, rfl⟩
        obtain ⟨gx, hgx⟩ : ∃ gx, gx = wa.heap.size := ⟨_, rfl⟩
        rw [← hwb, ← hgx]
        have HKX : Hid (Blk wb gx 29 #[.int .i64 hs, .bool hf, .slice xA hn xc]) := Lib.hid (by rw [hwb, hgx]; exact Blk.new wa _ _)
        have HBB : Hid (Below wr.heap.size wr wb) := Lib.hid (by rw [hwb]; exact HBA.out.alloc HBA.out.size _)
        have HXR2 : Hid (wb.ownsRow wr.heap.size 3 1 (.slice xA hn xc) hn (hts.map (Value.int .i64))) := Lib.hid (by rw [hwb]; exact row_below HXR.out ((Below.refl _ _).alloc (Nat.le_refl _) _))
        clear hwb hgx HXR HBA
        go_wp2_with fail
        refine (HRREAD.out _).mono ?_
        rintro e wd ⟨yA, yc, rfl, hyr, hbd⟩
        have HYR := Lib.hid hyr
        have HBD := Lib.hid hbd
        clear hyr hbd
        go_upto_region 18 with fail
        obtain ⟨we, hwe⟩ : ∃ we, we = wd.alloc (.cells #[.int .i64 hs, .bool hf, .slice yA hn yc] 30) := ⟨_, rfl⟩
        obtain ⟨gy, hgy⟩ : ∃ gy, gy = wd.heap.size := ⟨_, rfl⟩
        rw [← hwe, ← hgy]
        have HKY : Hid (Blk we gy 30 #[.int .i64 hs, .bool hf, .slice yA hn yc]) := Lib.hid (by rw [hwe, hgy]; exact Blk.new wd _ _)
        have HBE' : Hid (Below wb.heap.size wb we) := Lib.hid (by rw [hwe]; exact HBD.out.alloc HBD.out.size _)
        have HBE : Hid (Below wr.heap.size wr we) := Lib.hid (HBB.out.trans (HBE'.out.mono HBB.out.size))
        have HYR2 : Hid (we.ownsRow wr.heap.size 3 1 (.slice yA hn yc) hn (hts.map (Value.int .i64))) := Lib.hid (by rw [hwe]; exact row_lower (row_below HYR.out ((Below.refl _ _).alloc (Nat.le_refl _) _)) HBB.out.size)
        have HKX2 : Hid (Blk we gx 29 #[.int .i64 hs, .bool hf, .slice xA hn xc]) := Lib.hid (HKX.out.below HBE'.out HKX.out.lt)
        have HXR3 : Hid (we.ownsRow wr.heap.size 3 1 (.slice xA hn xc) hn (hts.map (Value.int .i64))) := Lib.hid (row_below HXR2.out HBE'.out)
        clear hwe hgy HYR HBD HXR2 HKX HBE' HBB
        have HADD : Hid (Calls Tryz.prog 17 #[.pointer (some ⟨g, 0, none⟩), .slice xA hn xc] we fun e w' => e = .returned (.tuple #[]) ∧ BookAt g g (j + 1) (ls ++ [⟨xA, xc, hts⟩]) w' ∧ Below g we w' ∧ BookLeaves we w') := Lib.hid (by
          have h := (HBK.out.below HBE.out).add ⟨xA, xc, hts⟩ wr.heap.size (Nat.le_of_lt HBK.out.lt) (by
            show we.ownsRow wr.heap.size 3 1 (.slice xA hts.length xc) hts.length (hts.map (Value.int .i64))
            rw [← HHN.out]; exact HXR3.out) HBK.out.old (by omega) (by show hts.length ≤ _; rw [← HHN.out]; omega)
          unfold LI.val at h
          simp only at h
          rw [← HHN.out] at h
          exact h)
        obtain x0 := HKX2.out.cell 2
        simp at x0
        go_wp2_with fail
        refine HADD.out.mono ?_
        rintro e wf ⟨rfl, hbk, hbf, hlv⟩
        have HBK2 := Lib.hid hbk
        have HWF : Hid (Below w5.heap.size w5 wf) := Lib.hid ((HWR.out.trans (HBE.out.mono HWR.out.size)).trans (hbf.mono HG.out))
        have hkx := hlv _ _ _ HKX2.out (by decide) (by decide)
        have hky := hlv _ _ _ HKY.out (by decide) (by decide)
        have HXF : Hid (wf.ownsRow w5.heap.size 3 1 (.slice xA hn xc) hn (hts.map (Value.int .i64))) := Lib.hid (row_lower (hlv.row HXR3.out (by decide) (by decide)) HWR.out.size)
        have HYF : Hid (wf.ownsRow w5.heap.size 3 1 (.slice yA hn yc) hn (hts.map (Value.int .i64))) := Lib.hid (row_lower (hlv.row HYR2.out (by decide) (by decide)) HWR.out.size)
        have x0 := hkx.cell 0
        have x1 := hkx.cell 1
        have x2 := hkx.cell 2
        have y0 := hky.cell 0
        have y1 := hky.cell 1
        have y2 := hky.cell 2
        simp at x0 x1 x2 y0 y1 y2
        clear hbk hbf hlv hkx hky HADD HXR3 HYR2 HKX2 HKY
        go_wp2_with fail
        refine (HSAME.out _ _ _ _ _ HXF.out HYF.out hx110).mono ?_
        rintro e wh ⟨rfl, hbh⟩
        have HBH := Lib.hid hbh
        clear hbh x0 x1 x2 y0 y1 y2
        go_wp2_with fail
        go_roundw
        case rel => exact ⟨j + 1, _, by omega, by go_num, HBK2.out.below HBH.out, HWF.out.trans (HBH.out.mono HWF.out.size)⟩
        case measure => simp [intOf]; omega
      · obtain rfl : j = 2 := by omega
        have HSTAYS : Hid (∀ W, Below w5.heap.size w5 W → Calls Tryz.prog 20 #[.slice (some ⟨g1, 0, none⟩) n cap1, .slice A n c] W fun e w' => e = .returned (.bool true) ∧ ∃ k, w' = W.drewN k) := Lib.hid (fun W hW => kstays_any g1 cap1 A n c ts _ W HN.out (HLE1.out.below hW) ((HT5.out.below hW).more hW.size) (by omega))
        have HSTAYS2 : Hid (∀ W, Below w5.heap.size w5 W → Calls Tryz.prog 20 #[.slice (some ⟨g2, 0, none⟩) m cap2, .slice X m cx] W fun e w' => e = .returned (.bool true) ∧ ∃ k, w' = W.drewN k) := Lib.hid (fun W hW => kstays_any g2 cap2 X m cx ns _ W HM.out (HLE2.out.below hW) ((HN5.out.below hW).more hW.size) (by omega))
        clear HREAD HRREAD HSAME HHN
        by_cases hout : q < 0 ∨ 1099511627776 ≤ q
        · have HAP := Lib.hid (HBK.out.apart (by omega))
          go_upto_region 21 with fail
          go_cut [140] (fun r wx => r = .bool true ∧ wx = wr)
          case first =>
            by_cases hq0 : q < 0
            · go_wp2_with fail
              go_meet
              exact ⟨rfl, rfl⟩
            · have hq1 : 1099511627776 ≤ q := by omega
              go_wp2_with fail
              go_meet
              exact ⟨rfl, rfl⟩
          case rest =>
          obtain ⟨rfl, rfl⟩ := hcut
          clear hout
          go_wp2_with fail
          refine HAP.out.mono ?_
          rintro e wa ⟨rfl, hba⟩
          have HWA := Lib.hid (HWR.out.trans (hba.mono HG.out))
          clear hba
          go_wp2_with fail
          refine (HSTAYS.out _ HWA.out).mono ?_
          rintro e wb ⟨rfl, k2, rfl⟩
          go_wp2_with fail
          go_ret
          exact ⟨rfl, below_more (HB5.out.trans (HWA.out.mono HB5.out.size)) k2⟩
        · have hq0 : 0 ≤ q := by omega
          have hq1 : q < 1099511627776 := by omega
          clear hout
          obtain ⟨B5, hB5⟩ : ∃ B5, B5 = w5.heap.size := ⟨_, rfl⟩
          have HB5E := Lib.hid hB5
          have HPUT : Hid (∀ W A' c' (acc : List Int) (len : Nat) (x : Int), len = acc.length → W.ownsRow B5 3 1 (.slice A' len c') len (acc.map (Value.int .i64)) → len ≤ 200 → B5 ≤ W.heap.size → Calls Tryz.prog 21 #[.slice A' len c', .int .i64 x] W fun e w' => ∃ A2 c2 l2, e = .returned (.slice A2 l2 c2) ∧ l2 = (putL x acc).length ∧ l2 ≤ len + 1 ∧ w'.ownsRow B5 3 1 (.slice A2 l2 c2) l2 ((putL x acc).map (Value.int .i64)) ∧ Below W.heap.size W w') := Lib.hid (fun W A' c' acc len x hl hr h2 hB => by
            refine (rput_any x A' c' len acc B5 W hl.symm hr (by omega) hB).mono ?_
            rintro e w' ⟨A2, c2, rfl, k1, k2⟩
            exact ⟨A2, c2, _, rfl, rfl, by rw [hl]; exact putL_len x acc, k1, k2⟩)
          clear hB5
          go_wp2_with fail
          go_loopw [26, 27] (fun o i wy => ∃ (j : Nat) (A' : Option Addr) (c' len : Nat), j ≤ m ∧ i = .int .i64 j ∧ o = .slice A' len c' ∧ len = ((ns.take j).foldl (fun a x => putL x a) []).length ∧ len ≤ j ∧ wy.ownsRow B5 3 1 (.slice A' len c') len (((ns.take j).foldl (fun a x => putL x a) []).map (Value.int .i64)) ∧ BookAt g g 2 ls wy ∧ Below w5.heap.size w5 wy) (fun _ i _ => m - (intOf i).toNat)
          case atStart => exact ⟨0, none, 0, 0, by omega, rfl, rfl, rfl, by omega, World.ownsRow_nil _ _ _ _, HBK.out, HWR.out⟩
          case round =>
            obtain ⟨j, oA, oc, on, hj, rfl, rfl, hon, honj, hor, hbk, hwy⟩ := hrel
            have HON := Lib.hid hon
            have HOR := Lib.hid hor
            have HBKY := Lib.hid hbk
            have HWY := Lib.hid hwy
            clear hon hor hbk hwy HBK HWR
            by_cases hlt : j < m
            · have hjl : j < ns.length := by rw [HM.out]; exact hlt
              obtain ⟨bx, off, rfl, hbB, hc⟩ := HN5.out (by omega)
              obtain ⟨x, hx⟩ : ∃ x, x = ns[j] := ⟨_, rfl⟩
              have hxj : ns[j]? = some x := by rw [hx]; exact List.getElem?_eq_getElem hjl
              have hcx : wr.cell? ⟨bx, off + j, none⟩ = some (.int .i64 x) := by rw [HWY.out.cell (p := ⟨bx, off + j, none⟩) hbB]; exact hc j x hxj
              have HFOLD : Hid ((ns.take (j + 1)).foldl (fun a x => putL x a) [] = putL x ((ns.take j).foldl (fun a x => putL x a) [])) := Lib.hid (by
                rw [List.take_add_one, hxj, List.foldl_append]
                rfl)
              have hjI : (j : Int) < (m : Int) := by omega
              clear hc hx hxj hjl
              go_wp2_with fail
              refine (HPUT.out _ _ _ _ _ x HON.out HOR.out (by omega) (by rw [HB5E.out]; exact HWY.out.size)).mono ?_
              rintro e wz ⟨A2, c2, l2, rfl, hl2, hl3, hr2, hbz⟩
              have HL2 := Lib.hid hl2
              have HR2 := Lib.hid hr2
              have HBZ := Lib.hid hbz
              clear hl2 hr2 hbz
              go_wp2_with fail
              go_roundw
              case rel => exact ⟨j + 1, A2, c2, l2, by omega, by go_num, rfl, by rw [HFOLD.out]; exact HL2.out, by omega, by rw [HFOLD.out]; exact HR2.out, HBKY.out.below HBZ.out, HWY.out.trans (HBZ.out.mono HWY.out.size)⟩
              case measure => simp [intOf]; omega
            · obtain rfl : m = j := by omega
              obtain ⟨order, hord⟩ : ∃ order, order = putOnce ns := ⟨_, rfl⟩
              have HORD := Lib.hid hord
              have HFIN : Hid ((ns.take m).foldl (fun a x => putL x a) [] = order) := Lib.hid (by rw [List.take_of_length_le (by rw [HM.out]; exact Nat.le_refl _), hord]; exact putAll_once ns)
              have HON2 : Hid (on = order.length) := Lib.hid (by rw [← HFIN.out]; exact HON.out)
              have HOR2 : Hid (wr.ownsRow B5 3 1 (.slice oA on oc) on (order.map (Value.int .i64))) := Lib.hid (by rw [← HFIN.out]; exact HOR.out)
              have HNX : Hid (∀ W, Below w5.heap.size w5 W → Calls Tryz.prog 22 #[.agg #[.int .i64 q, .bool full, .slice (some ⟨g1, 0, none⟩) n cap1], .slice (some ⟨g2, 0, none⟩) m cap2] W fun e w' => ∃ A' c', e = .returned (.agg #[.int .i64 (q + 1), .bool true, .slice A' on c']) ∧ w'.ownsRow W.heap.size 3 1 (.slice A' on c') on (order.map (Value.int .i64)) ∧ Below W.heap.size W w') := Lib.hid (fun W hW => by
                have e : (HD.mk q full ts).val (some ⟨g1, 0, none⟩) cap1 = .agg #[.int .i64 q, .bool full, .slice (some ⟨g1, 0, none⟩) n cap1] := by unfold HD.val; simp only; rw [HN.out]
                rw [← e]
                refine (hnext_own (HD.mk q full ts) _ _ (some ⟨g2, 0, none⟩) m cap2 ns W HM.out ((HLE2.out.below hW).ints) (fun h => by cases h) ⟨hq0, by show q ≤ _; omega⟩ (by omega)).mono ?_
                rintro e w' ⟨A', c', rfl, h1, h2⟩
                rw [HON2.out, hord]
                exact ⟨A', c', rfl, h1, h2⟩)
              have HSAME2 : Hid (∀ W A1 c1 A2 c2, W.ownsRow w5.heap.size 3 1 (.slice A1 on c1) on (order.map (Value.int .i64)) → W.ownsRow w5.heap.size 3 1 (.slice A2 on c2) on (order.map (Value.int .i64)) → Calls Tryz.prog 18 #[.agg #[.int .i64 (q + 1), .bool true, .slice A1 on c1], .agg #[.int .i64 (q + 1), .bool true, .slice A2 on c2]] W fun e w' => e = .returned (.bool true) ∧ Below W.heap.size W w') := Lib.hid (fun W A1 c1 A2 c2 h1 h2 => by
                have h3 := HON2.out
                rw [h3] at h1 h2 ⊢
                exact halike_any (HD.mk (q + 1) true order) A1 c1 A2 c2 W ⟨row_ints h1, by show order.length ≤ _; omega⟩ ⟨row_ints h2, by show order.length ≤ _; omega⟩)
              have HSAME3 : Hid (∀ W, Calls Tryz.prog 18 #[.agg #[.int .i64 q, .bool false, .slice none 0 0], .agg #[.int .i64 q, .bool false, .slice none 0 0]] W fun e w' => e = .returned (.bool true) ∧ Below W.heap.size W w') := Lib.hid (fun W => halike_any (HD.mk q false []) none 0 none 0 W ⟨Ints.nil _ _ _, by show 0 ≤ _; omega⟩ ⟨Ints.nil _ _ _, by show 0 ≤ _; omega⟩)
              have HON200 : Hid (on ≤ 200) := Lib.hid (by omega)
              clear hord HON HOR HFIN HPUT honj hlt
              go_upto_region 28 with fail
              refine wp_region_free 9 slE (EJ wr (.agg #[.int .i64 q, .bool full, .slice (some ⟨g1, 0, none⟩) n cap1]) (.slice (some ⟨g2, 0, none⟩) m cap2) q on order) (by kernel_rfl) (by kernel_rfl) rfl (by kernel_rfl) (by kernel_rfl) EJ.start ?hops ?hrest
              case hops =>
                intro o ho L f y w' hcl hF hLo hJ hw hy
                have HJ := Lib.hid hJ
                have HW5 : Hid (Below w5.heap.size w5 w') := Lib.hid (HWY.out.trans (hJ.below.mono HWY.out.size))
                obtain ⟨c0, c1, c2, c3, c4, c5⟩ := HCELLS.out w' HW5.out
                clear hJ
                rcases (show o = 0 ∨ o = 1 ∨ o = 2 ∨ o = 3 ∨ o = 4 ∨ o = 5 ∨ o = 6 ∨ o = 7 ∨ o = 8 by omega) with rfl | rfl | rfl | rfl | rfl | rfl | rfl | rfl | rfl
                · have t0 : y.tmps[15]?.getD undef = .pointer (some ⟨G, 0, none⟩) := by rw [hF 15 (slE_far (by omega) (by omega) (by omega))]; rfl
                  clear hw hy hF hcl
                  refine wpOp_value (v := .agg #[.int .i64 q, .bool full, .slice (some ⟨g1, 0, none⟩) n cap1]) (w' := w') rfl rfl ?_ ⟨_, rfl, HJ.out.at0⟩
                  go_simp
                · have t0 : y.tmps[14]?.getD undef = .slice (some ⟨g2, 0, none⟩) m cap2 := by rw [hF 14 (slE_far (by omega) (by omega) (by omega))]; rfl
                  clear hw hy hF hcl
                  refine wpOp_value (v := .slice (some ⟨g2, 0, none⟩) m cap2) (w' := w') rfl rfl ?_ ⟨_, rfl, HJ.out.at1⟩
                  go_simp
                · have l0 : L 0 = true := hw 0 (of_decide_eq_true (by kernel_rfl))
                  have l1 : L 1 = true := hw 1 (of_decide_eq_true (by kernel_rfl))
                  have t0 : y.tmps[160]?.getD undef = .agg #[.int .i64 q, .bool full, .slice (some ⟨g1, 0, none⟩) n cap1] := (hy 0 160 (by omega) l0 rfl).trans (HJ.out.f0 l0)
                  have t1 : y.tmps[161]?.getD undef = .slice (some ⟨g2, 0, none⟩) m cap2 := (hy 1 161 (by omega) l1 rfl).trans (HJ.out.f1 l1)
                  have l7 : L 7 = false := by
                    cases hl : L 7 with
                    | false => rfl
                    | true => rw [hcl 7 hl 2 (of_decide_eq_true (by kernel_rfl))] at hLo; cases hLo
                  clear hw hy hF hcl c0 c1 c2 c3 c4 c5
                  refine wpOp_call (f := 22) (args := #[.agg #[.int .i64 q, .bool full, .slice (some ⟨g1, 0, none⟩) n cap1], .slice (some ⟨g2, 0, none⟩) m cap2]) rfl rfl (by go_simp) ((HNX.out w' HW5.out).mono ?_)
                  rintro e w'' ⟨A', c', rfl, h1, h2⟩
                  exact ⟨_, rfl, _, rfl, HJ.out.at2 l7 h1 h2⟩
                · have t0 : y.tmps[15]?.getD undef = .pointer (some ⟨G, 0, none⟩) := by rw [hF 15 (slE_far (by omega) (by omega) (by omega))]; rfl
                  clear hw hy hF hcl
                  refine wpOp_value (v := .agg #[.int .i64 q, .bool full, .slice (some ⟨g1, 0, none⟩) n cap1]) (w' := w') rfl rfl ?_ ⟨_, rfl, HJ.out.at3⟩
                  go_simp
                · have l3 : L 3 = true := hw 3 (of_decide_eq_true (by kernel_rfl))
                  have t0 : y.tmps[163]?.getD undef = .agg #[.int .i64 q, .bool full, .slice (some ⟨g1, 0, none⟩) n cap1] := (hy 3 163 (by omega) l3 rfl).trans (HJ.out.f3 l3)
                  clear hw hy hF hcl c0 c1 c2 c3 c4 c5
                  refine wpOp_call (f := 23) (args := #[.agg #[.int .i64 q, .bool full, .slice (some ⟨g1, 0, none⟩) n cap1]]) rfl rfl (by go_simp) ((HDONE.out w').mono ?_)
                  rintro e w'' ⟨rfl, h2⟩
                  exact ⟨_, rfl, _, rfl, HJ.out.at4 h2⟩
                · have l7 : L 7 = false := by
                    cases hl : L 7 with
                    | false => rfl
                    | true => rw [hcl 7 hl 5 (of_decide_eq_true (by kernel_rfl))] at hLo; cases hLo
                  clear hw hy hF hcl c0 c1 c2 c3 c4 c5
                  refine wpOp_value (v := .pointer (some ⟨w'.heap.size, 0, none⟩)) (w' := w'.alloc (.cells #[.int .i64 0, .bool false, .slice none 0 0] 29)) rfl rfl ?_ ⟨_, rfl, HJ.out.at5 l7⟩
                  go_simp
                · have l8 : L 8 = false := by
                    cases hl : L 8 with
                    | false => rfl
                    | true => rw [hcl 8 hl 6 (of_decide_eq_true (by kernel_rfl))] at hLo; cases hLo
                  clear hw hy hF hcl c0 c1 c2 c3 c4 c5
                  refine wpOp_value (v := .pointer (some ⟨w'.heap.size, 0, none⟩)) (w' := w'.alloc (.cells #[.int .i64 0, .bool false, .slice none 0 0] 29)) rfl rfl ?_ ⟨_, rfl, HJ.out.at6 l8⟩
                  go_simp
                · have l2 : L 2 = true := hw 2 (of_decide_eq_true (by kernel_rfl))
                  have l5 : L 5 = true := hw 5 (of_decide_eq_true (by kernel_rfl))
                  obtain ⟨b, A', c', e5, e2, hzb, hnext⟩ := HJ.out.at7 l2 l5 hLo
                  have t0 : y.tmps[28]?.getD undef = .pointer (some ⟨b, 0, none⟩) := (hy 5 28 (by omega) l5 rfl).trans e5
                  have t1 : y.tmps[162]?.getD undef = .agg #[.int .i64 (q + 1), .bool true, .slice A' on c'] := (hy 2 162 (by omega) l2 rfl).trans e2
                  exact wpOp_skip rfl rfl (exec_store rfl (by simpa [Act.eval] using t0) (by simpa [Act.eval] using t1) (store_whole (P := Tryz.prog) (ty := 29) hzb (cs := #[.int .i64 (q + 1), .bool true, .slice A' on c']) rfl (by simp [Value.oneCell']) (fun w => by kernel_rfl))) ⟨undef, rfl, hnext⟩
                · have l4 : L 4 = true := hw 4 (of_decide_eq_true (by kernel_rfl))
                  have l6 : L 6 = true := hw 6 (of_decide_eq_true (by kernel_rfl))
                  obtain ⟨b, e6, hzb, hnext⟩ := HJ.out.at8 l6 hLo
                  have t0 : y.tmps[29]?.getD undef = .pointer (some ⟨b, 0, none⟩) := (hy 6 29 (by omega) l6 rfl).trans e6
                  have t1 : y.tmps[164]?.getD undef = .agg #[.int .i64 q, .bool false, .slice none 0 0] := (hy 4 164 (by omega) l4 rfl).trans (HJ.out.f4 l4)
                  exact wpOp_skip rfl rfl (exec_store rfl (by simpa [Act.eval] using t0) (by simpa [Act.eval] using t1) (store_whole (P := Tryz.prog) (ty := 29) hzb (cs := #[.int .i64 q, .bool false, .slice none 0 0]) rfl (by simp [Value.oneCell']) (fun w => by kernel_rfl))) ⟨undef, rfl, hnext⟩
              case hrest =>
                intro L f w' hL hJ
                obtain ⟨bx, by_, A', c', e5, e6, hbx, hby, hrow, hbel⟩ := hJ.end hL
                have HBX := Lib.hid hbx
                have HBY := Lib.hid hby
                have HROW := Lib.hid hrow
                have HW5 : Hid (Below w5.heap.size w5 w') := Lib.hid (HWY.out.trans (hbel.mono HWY.out.size))
                have HOR3 : Hid (w'.ownsRow w5.heap.size 3 1 (.slice oA on oc) on (order.map (Value.int .i64))) := Lib.hid (by rw [← HB5E.out]; exact row_below HOR2.out hbel)
                have HADD : Hid (Calls Tryz.prog 17 #[.pointer (some ⟨g, 0, none⟩), .slice A' on c'] w' fun e w'' => e = .returned (.tuple #[]) ∧ BookAt g g 3 (ls ++ [⟨A', c', order⟩]) w'' ∧ Below g w' w'' ∧ BookLeaves w' w'') := Lib.hid (by
                  have h := (HBKY.out.below hbel).add ⟨A', c', order⟩ wr.heap.size (Nat.le_of_lt HBKY.out.lt) (by
                    show w'.ownsRow wr.heap.size 3 1 (.slice A' order.length c') order.length (order.map (Value.int .i64))
                    rw [← HON2.out]; exact hrow) HBKY.out.old (by omega) (by show order.length ≤ _; rw [← HON2.out]; have := HON200.out; omega)
                  unfold LI.val at h
                  simp only at h
                  rw [← HON2.out] at h
                  exact h)
                have x2 := hbx.cell 2
                simp at x2
                clear hJ hL hbx hby hrow hbel
                simp only [putSlots, slE, List.range, List.range.loop, List.foldl, List.setIfInBounds_toArray, List.set_cons_succ, List.set_cons_zero, e5, e6]
                clear e5 e6
                go_wp2_with fail
                refine HADD.out.mono ?_
                rintro e wf ⟨rfl, hbk, hbf, hlv⟩
                have HBK3 := Lib.hid hbk
                have HWF : Hid (Below w5.heap.size w5 wf) := Lib.hid (HW5.out.trans (hbf.mono HG.out))
                have hkx := hlv _ _ _ HBX.out (by decide) (by decide)
                have hky := hlv _ _ _ HBY.out (by decide) (by decide)
                have HKY := Lib.hid hky
                have HXF : Hid (wf.ownsRow w5.heap.size 3 1 (.slice A' on c') on (order.map (Value.int .i64))) := Lib.hid (row_lower (hlv.row HROW.out (by decide) (by decide)) HWY.out.size)
                have HYF : Hid (wf.ownsRow w5.heap.size 3 1 (.slice oA on oc) on (order.map (Value.int .i64))) := Lib.hid (hlv.row HOR3.out (by decide) (by decide))
                have x0 := hkx.cell 0
                have x1 := hkx.cell 1
                have x2 := hkx.cell 2
                simp at x0 x1 x2
                clear hbk hbf hlv hkx hky HADD
                go_wp2_with fail
                refine (HSAME2.out _ _ _ _ _ HXF.out HYF.out).mono ?_
                rintro e wh ⟨rfl, hbh⟩
                have HWH : Hid (Below w5.heap.size w5 wh) := Lib.hid (HWF.out.trans (hbh.mono HWF.out.size))
                have HBK4 : Hid (BookAt g g 3 (ls ++ [⟨A', c', order⟩]) wh) := Lib.hid (HBK3.out.below hbh)
                have hky := HKY.out.below hbh HKY.out.lt
                have y0 := hky.cell 0
                have y1 := hky.cell 1
                have y2 := hky.cell 2
                simp at y0 y1 y2
                clear hbh x0 x1 x2 hky
                go_wp2_with fail
                refine (HSAME3.out _).mono ?_
                rintro e wi ⟨rfl, hbi⟩
                have HWI : Hid (Below w5.heap.size w5 wi) := Lib.hid (HWH.out.trans (hbi.mono HWH.out.size))
                have HBK5 : Hid (BookAt g g 3 (ls ++ [⟨A', c', order⟩]) wi) := Lib.hid (HBK4.out.below hbi)
                clear hbi y0 y1 y2
                go_wp2_with fail
                refine (HSTAYS.out _ HWI.out).mono ?_
                rintro e wj ⟨rfl, k2, rfl⟩
                go_wp2_with fail
                refine (HSTAYS2.out _ (below_more HWI.out k2)).mono ?_
                rintro e wk ⟨rfl, k3, rfl⟩
                go_wp2_with fail
                refine ((HBK5.out.below (below_more (Below.refl _ _) (k2 + k3))).apart (by omega)).mono ?_
                rintro e wl ⟨rfl, hbl⟩
                have HWL : Hid (Below w.heap.size w wl) := Lib.hid (HB5.out.trans (((below_more HWI.out (k2 + k3)).trans (hbl.mono HG.out)).mono HB5.out.size))
                clear hbl
                go_wp2_with fail
                go_ret
                exact ⟨rfl, HWL.out⟩

set_option maxRecDepth 100000 in
set_option maxHeartbeats 1000000 in
theorem htells_any (q : Int) (full : Bool) (A : Option Addr) (n c : Nat) (ts : List Int) (X : Option Addr) (m cx : Nat) (ns : List Int) (b : ByteArray) (own : Bool) (w : World)
    (hn : ts.length = n) (hA : Ints w w.heap.size A ts) (hA0 : A = none → n = 0 ∧ c = 0) (hm : ns.length = m) (hX : Ints w w.heap.size X ns) (hX0 : X = none → m = 0 ∧ cx = 0) :
    Calls Tryz.prog 3 #[.int .i64 q, .bool full, .slice A n c, .slice X m cx, .string b, .bool own] w fun e w' => e = .returned (.bool true) ∧ Below w.heap.size w w' := by
  by_cases h1 : n ≤ 200
  · by_cases h2 : m ≤ 200
    · by_cases h3 : b.size ≤ 600
      · exact htells_in q full A n c ts X m cx ns b own w hn hA hA0 hm hX hX0 h1 h2 h3
      · have n1 : (n : Int) ≤ 200 := by omega
        have m1 : (m : Int) ≤ 200 := by omega
        have s1 : (600 : Int) < (b.size : Int) := by omega
        clear hn hA hA0 hm hX hX0
        go_enter Tryz.func3, Tryz.ntmps3
        go_wp2_with fail
        refine (alive8_any _).mono ?_
        rintro e w1 ⟨rfl, hb1⟩
        go_wp2_with fail
        go_ret
        exact ⟨rfl, hb1⟩
    · have n1 : (n : Int) ≤ 200 := by omega
      have m1 : (200 : Int) < (m : Int) := by omega
      clear hn hA hA0 hm hX hX0
      go_enter Tryz.func3, Tryz.ntmps3
      go_wp2_with fail
      refine (alive8_any _).mono ?_
      rintro e w1 ⟨rfl, hb1⟩
      go_wp2_with fail
      go_ret
      exact ⟨rfl, hb1⟩
  · have n1 : (200 : Int) < (n : Int) := by omega
    clear hn hA hA0 hm hX hX0
    go_enter Tryz.func3, Tryz.ntmps3
    go_wp2_with fail
    refine (alive8_any _).mono ?_
    rintro e w1 ⟨rfl, hb1⟩
    go_wp2_with fail
    go_ret
    exact ⟨rfl, hb1⟩
end Go.Proofs.YtnpmeolibdjgpaaGreatDoor
