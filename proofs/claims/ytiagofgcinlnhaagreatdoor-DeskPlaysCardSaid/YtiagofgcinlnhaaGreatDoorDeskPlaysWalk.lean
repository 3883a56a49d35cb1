/-
  DeskPlays: the law's walk. No statement is proved here.
-/
import Derived.Test.YtiagofgcinlnhaaGreatDoorDeskPl3
import Derived.Test.YtiagofgcinlnhaaGreatDoorRefPut2
import Derived.Deep.CutRange
import Derived.Deep.CutBlock
import Derived.Deep.Cut
import Derived.Test.YtiagofgcinlnhaaGreatDoorDeskCaps
import Derived.Test.YtiagofgcinlnhaaGreatDoorPhaseLast
import Derived.Test.YtiagofgcinlnhaaGreatDoorDeskVals
import Derived.Test.YtiagofgcinlnhaaGreatDoorDeskSyncD
namespace Go.Proofs.YtiagofgcinlnhaaGreatDoor
open Go.RowKit
theorem light_cases11 (e : Ending) (ds : List Op11) (h : LightSays11 ds e) : e = .returned (.bool false) ∨ (e = .returned (.bool true) ∧ ds.length ≤ 60 ∧ ∀ d ∈ ds, d.light) := by
  obtain ⟨r, rfl, h⟩ := h
  cases r with
  | false => exact .inl rfl
  | true => exact .inr ⟨rfl, h rfl⟩
set_option maxRecDepth 100000 in
set_option maxHeartbeats 16000000 in
theorem dplays_out (n : Int) (A : Option Addr) (nl c : Nat) (w : World) (ho : n < 140 ∨ 200 < n) :
    Calls Tryz.prog 3 #[.int .i64 n, .slice A nl c] w fun e w' => e = .returned (.bool true) ∧ Below w.heap.size w w' := by
  have HA := Lib.hid alive11_any
  by_cases h1 : n < 140
  · clear ho
    go_enter Tryz.func3, Tryz.ntmps3
    go_wp2_with (go_at_call 5; refine (HA.out _).mono ?_; rintro e w1 ⟨rfl, hb1⟩)
    go_ret
    exact ⟨rfl, hb1⟩
  have h2 : 200 < n := by omega
  clear ho
  go_enter Tryz.func3, Tryz.ntmps3
  go_wp2_with (go_at_call 5; refine (HA.out _).mono ?_; rintro e w1 ⟨rfl, hb1⟩)
  go_ret
  exact ⟨rfl, hb1⟩
set_option maxRecDepth 100000 in
set_option maxHeartbeats 16000000 in
theorem dplays_in (N : Nat) (A : Option Addr) (nl c : Nat) (ds : List Op11) (w : World) (hA : Acts11Cap w A nl c ds) (hN : 140 ≤ N ∧ N ≤ 200) :
    Calls Tryz.prog 3 #[.int .i64 (N : Int), .slice A nl c] w fun e w' => e = .returned (.bool true) ∧ Below w.heap.size w w' := by
  have HAL := Lib.hid alive11_any
  have HCAP := Lib.hid hA.2
  replace hA := hA.1
  have HLI := Lib.hid (light11_any A nl c ds w w hA (Below.refl _ _))
  have HNW := Lib.hid (fun w1 => dnew_yes (N : Int) N w1 rfl (by omega) (by omega))
  have HMK : Hid (∀ (w1 : World) (gd : Nat) (O : List Nat), DiskAt w1 O gd (DS.fresh N (zeroB 256)) → (∀ b ∈ O, w.heap.size ≤ b) → Below w.heap.size w w1 → Calls Tryz.prog 7 #[.pointer (some ⟨gd, 0, none⟩)] w1 fun e w' => ∃ g K h, e = .returned (.tuple #[.pointer (some ⟨g, 0, none⟩), .int .i64 0]) ∧ DSt w w' g gd 1 K ∧ Fresh11 N K h ∧ Go11 N K h [0, 1] 3) := Lib.hid (fun w1 gd O hd hO hb => (make_any (by omega) w w1 hb hd hO).mono (fun e w' ⟨g, h, he, hs, hf⟩ => ⟨g, _, h, he, hs, hf, start_go (by omega) hf⟩))
  obtain ⟨n, hn⟩ : ∃ n, n = N - 111 := ⟨_, rfl⟩
  have n1 : ¬ (N : Int) < 140 := by omega
  have n2 : ¬ 200 < (N : Int) := by omega
  have n3 : IntKind.i64.wrap ((N : Int) - 111) = (n : Int) := by rw [IntKind.wrap_i64]; omega
  have HNN : Hid (n = N - 111 ∧ 29 ≤ n ∧ n ≤ 89) := Lib.hid (by omega)
  have HN := Lib.hid hN
  have HIN := Lib.hid hA
  clear hA hN hn
  go_enter Tryz.func3, Tryz.ntmps3
  go_wp2_with fail
  refine HLI.out.mono ?_
  rintro e w1 ⟨hl1, hb1⟩
  have HB1 := Lib.hid hb1
  clear hb1 HLI
  rcases light_cases11 _ _ hl1 with rfl | ⟨rfl, hn1, hf1⟩
  · clear hl1
    go_wp2_with (go_at_call 5; refine (HAL.out _).mono ?_; rintro e w2 ⟨rfl, hb2⟩; have HB2 := Lib.hid (HB1.out.trans (hb2.mono HB1.out.size)); clear hb2)
    go_ret
    exact ⟨rfl, HB2.out⟩
  have HF1 := Lib.hid hf1
  have HM1 : Hid (nl ≤ 60) := Lib.hid (by rw [← HIN.out.len]; exact hn1)
  clear hl1 hf1 hn1
  go_wp2_with fail
  refine (HAL.out _).mono ?_
  rintro e w2 ⟨rfl, hb2⟩
  have HB2 := Lib.hid (HB1.out.trans (hb2.mono HB1.out.size))
  clear hb2 HB1 HAL
  go_wp2_with fail
  refine (HNW.out _).mono ?_
  rintro e w3 ⟨gd, O, rfl, hd, hO, hb3⟩
  have HFM := Lib.hid (HMK.out w3 gd O hd (fun b hb => Nat.le_trans HB2.out.size (hO b hb)) (HB2.out.trans (hb3.mono HB2.out.size)))
  clear hd hO hb3 HMK HNW HB2
  go_wp2_with fail
  refine HFM.out.mono ?_
  rintro e w4 ⟨g, K0, h, rfl, hs4, hf, hgo⟩
  obtain ⟨gw, c0, -, -, -⟩ := hs4.wal
  have HS4 : Hid (DMk w w4 g gd 1 N K0 []) := Lib.hid (DMk.of hs4)
  have HFR := Lib.hid hf
  have HGO := Lib.hid hgo
  clear hs4 hf hgo HFM
  go_upto_region 10 with fail
  go_cut [10] from 80 to 87 (fun v wx => ∃ x, v = .pointer (some ⟨x, 0, none⟩) ∧ DocAt wx w4.heap.size x (begD n 0) ∧ Below w4.heap.size w4 wx)
  case first =>
    have HMT := Lib.hid (fun W => make_texts W n (by have := HNN.out; omega))
    refine wp_region_fresh (W := w4) 80 6 85 3 (fun | 0 => .int .i64 (n : Int) | 2 => .int .i64 (n : Int) | _ => undef) (fun | 1 => some ⟨9, 1, n, txtV (List.replicate n .empty)⟩ | 3 => some ⟨9, 1, n, txtV (List.replicate n .empty)⟩ | 4 => some ⟨3, 1, 2, intV [0, 1]⟩ | 5 => some ⟨3, 1, 2, intV [0, 1]⟩ | _ => none) (by kernel_rfl) (by kernel_rfl) rfl (by omega) (by kernel_rfl) rfl (Nat.le_of_ble_eq_true (by kernel_rfl)) ?hval ?hrow ?hrest
    case hval =>
      intro i hi hr z w' hB hF hv
      rcases (show i = 0 ∨ i = 1 ∨ i = 2 ∨ i = 3 ∨ i = 4 ∨ i = 5 by omega) with rfl | rfl | rfl | rfl | rfl | rfl
      · have t0 : z.tmps[9]?.getD undef = .int .i64 (n : Int) := (congrArg (fun z => z.getD undef) (hF.2.2 9 (by omega))).trans (by kernel_rfl)
        clear hv hF
        refine wpOp_value (v := .int .i64 (n : Int)) (w' := w') rfl rfl ?_ ⟨rfl, rfl⟩
        go_simp
      · cases hr
      · have t0 : z.tmps[9]?.getD undef = .int .i64 (n : Int) := (congrArg (fun z => z.getD undef) (hF.2.2 9 (by omega))).trans (by kernel_rfl)
        clear hv hF
        refine wpOp_value (v := .int .i64 (n : Int)) (w' := w') rfl rfl ?_ ⟨rfl, rfl⟩
        go_simp
      · cases hr
      · cases hr
      · cases hr
    case hrow =>
      intro i r hi hr z w' hB hF hv
      rcases (show i = 0 ∨ i = 1 ∨ i = 2 ∨ i = 3 ∨ i = 4 ∨ i = 5 by omega) with rfl | rfl | rfl | rfl | rfl | rfl
      · cases hr
      · have t0 : z.tmps[80]?.getD undef = .int .i64 (n : Int) := hv 0 (of_decide_eq_true (by kernel_rfl)) (by omega) rfl
        injection hr with hr
        subst hr
        clear hv hF
        have hmk := HMT.out w'
        have hown := own_texts w' n (by have := HNN.out; omega)
        refine wpOp_value (v := .slice (some ⟨w'.heap.size, 0, none⟩) n n) (w' := w'.alloc (.cells (txtV (List.replicate n .empty)).toArray 9)) rfl rfl ?_ ⟨_, rfl, hown, (Below.refl _ _).alloc (Nat.le_refl _) _⟩
        go_simp
      · cases hr
      · have t0 : z.tmps[82]?.getD undef = .int .i64 (n : Int) := hv 2 (of_decide_eq_true (by kernel_rfl)) (by omega) rfl
        injection hr with hr
        subst hr
        clear hv hF
        have hmk := HMT.out w'
        have hown := own_texts w' n (by have := HNN.out; omega)
        refine wpOp_value (v := .slice (some ⟨w'.heap.size, 0, none⟩) n n) (w' := w'.alloc (.cells (txtV (List.replicate n .empty)).toArray 9)) rfl rfl ?_ ⟨_, rfl, hown, (Below.refl _ _).alloc (Nat.le_refl _) _⟩
        go_simp
      · injection hr with hr
        subst hr
        clear hv hF
        refine wpOp_value (v := .slice (some ⟨w'.heap.size, 0, none⟩) 2 2) (w' := w'.alloc (.cells #[.int .i64 0, .int .i64 1] 3)) rfl rfl ?_ ⟨_, rfl, own_two w', (Below.refl _ _).alloc (Nat.le_refl _) _⟩
        go_simp
      · injection hr with hr
        subst hr
        clear hv hF
        refine wpOp_value (v := .slice (some ⟨w'.heap.size, 0, none⟩) 2 2) (w' := w'.alloc (.cells #[.int .i64 0, .int .i64 1] 3)) rfl rfl ?_ ⟨_, rfl, own_two w', (Below.refl _ _).alloc (Nat.le_refl _) _⟩
        go_simp
    case hrest =>
      intro L f w' hL hJ
      obtain ⟨hB, -, hR, hA⟩ := hJ
      have r1 := hR 1 _ (by omega) (hL 1 (by omega)) rfl
      have r3 := hR 3 _ (by omega) (hL 3 (by omega)) rfl
      have r4 := hR 4 _ (by omega) (hL 4 (by omega)) rfl
      have r5 := hR 5 _ (by omega) (hL 5 (by omega)) rfl
      have a1 := hA 1 3 _ _ (by omega) (by omega) (by omega) (hL 1 (by omega)) (hL 3 (by omega)) rfl rfl
      have a2 := hA 4 5 _ _ (by omega) (by omega) (by omega) (hL 4 (by omega)) (hL 5 (by omega)) rfl rfl
      simp only at r1 r3 r4 r5
      obtain ⟨g1, d1, e1, -⟩ := row_slice' r1
      obtain ⟨g3, d3, e3, -⟩ := row_slice' r3
      obtain ⟨g4, d4, e4, -⟩ := row_slice' r4
      obtain ⟨g5, d5, e5, -⟩ := row_slice' r5
      rw [e1] at r1 a1
      rw [e3] at r3 a1
      rw [e4] at r4 a2
      rw [e5] at r5 a2
      have hb2 : Below w'.heap.size w' (w'.alloc (.cells #[.slice g1 n d1, .slice g3 n d3, .slice g4 2 d4, .slice g5 2 d5] 41)) := (Below.refl _ _).alloc (Nat.le_refl _) _
      have HD : Hid (DocAt (w'.alloc (.cells #[.slice g1 n d1, .slice g3 n d3, .slice g4 2 d4, .slice g5 2 d5] 41)) w4.heap.size w'.heap.size (begD n 0)) := Lib.hid ⟨_, _, _, _, Blk.new w' _ _, hB.size, by simpa [begD] using row_below r1 hb2, by simpa [begD] using row_below r3 hb2, row_below r4 hb2, row_below r5 hb2, a1, a2⟩
      have HBB : Hid (Below w4.heap.size w4 (w'.alloc (.cells #[.slice g1 n d1, .slice g3 n d3, .slice g4 2 d4, .slice g5 2 d5] 41))) := Lib.hid (hB.trans (hb2.mono hB.size))
      clear hL hB hR hA r1 r3 r4 r5 a1 a2 hb2
      refine wpOps_state (a := 1) (b := 3) (c := 4) (e := 5) (d := 10) rfl rfl rfl (Nat.le_of_ble_eq_true (by kernel_rfl)) (by omega) (by omega) (by omega) (by omega) e1 e3 e4 e5 ?_
      clear e1 e3 e4 e5
      rename_i hJ hMet
      first
      | refine hMet _ _ (Met.intro (hJ _ _ ?_))
      | refine hJ _ _ (Met.intro (hMet _ _ ?_))
      refine ⟨.pointer (some ⟨w'.heap.size, 0, none⟩), f 0, f 1, f 2, f 3, f 4, f 5, .agg #[.slice g1 n d1, .slice g3 n d3, .slice g4 2 d4, .slice g5 2 d5], .pointer (some ⟨w'.heap.size, 0, none⟩), ⟨_, rfl, HD.out, HBB.out⟩, ?_⟩
      kernel_rfl
  case rest =>
  obtain ⟨x, rfl, hx, hb5⟩ := hcut
  obtain ⟨w5, hw5⟩ : ∃ w5, w5 = wc := ⟨_, rfl⟩
  subst hw5
  obtain ⟨vh, vo, vu, vw, hdi⟩ := hx
  have hbl : (begD n 0).home.length = n := by simp [begD]
  obtain ⟨gh, ch, hv0, -, -⟩ := hdi.home.form (by rw [hbl]; have := HNN.out; omega)
  rw [hbl] at hv0
  subst hv0
  have c00 := hdi.blk.cell 0
  simp at c00
  have HDI := Lib.hid hdi
  have HB5 := Lib.hid hb5
  have HZ : Hid (∀ w1, Calls Tryz.prog 8 #[.int .i64 256] w1 fun e w' => e = .returned (.string (zeroB 256)) ∧ Below w1.heap.size w1 w') := Lib.hid (fun w1 => ref_zeros 256 w1 (by omega))
  clear hdi hb5 hbl
  go_upto_block 0 with fail
  go_cut [11] from 93 to 103 (fun _ wx => DocIs wx w4.heap.size x (.slice (some ⟨gh, 0, none⟩) n ch) vo vu vw (begD n n) ∧ Below w4.heap.size w4 wx)
  case first =>
    go_wp2_with fail
    go_loopw [93] (fun i wr => ∃ j : Nat, j ≤ n ∧ i = .int .i64 (j : Int) ∧ DocIs wr w4.heap.size x (.slice (some ⟨gh, 0, none⟩) n ch) vo vu vw (begD n j) ∧ Below w4.heap.size w4 wr) (fun i _ => n - (intOf i).toNat)
    case atStart => exact ⟨0, Nat.zero_le _, rfl, HDI.out, HB5.out⟩
    case round =>
      obtain ⟨j, hj, rfl, hd, hb⟩ := hrel
      by_cases hlt : j < n
      rotate_left
      · obtain rfl : j = n := by omega
        have HD := Lib.hid hd
        have HB := Lib.hid hb
        clear hd hb
        go_wp2_with fail
        go_meet
        exact ⟨HD.out, HB.out⟩
      have hjI : (j : Int) < (n : Int) := by omega
      have hn89 : (n : Int) ≤ 89 := by have := HNN.out; omega
      have c0 := hd.blk.cell 0
      simp at c0
      have HD := Lib.hid hd
      have HB := Lib.hid hb
      clear hd hb
      go_upto_region 14 with fail
      obtain ⟨Z, hZ⟩ : ∃ Z, Z = zeroB 256 := ⟨_, rfl⟩
      have HC : Hid (∀ w', Below wr.heap.size wr w' → w'.cell? ⟨x, 0, none⟩ = some (.slice (some ⟨gh, 0, none⟩) n ch)) := Lib.hid (fun w' hb => by
        have := (HD.out.below hb).blk.cell 0
        simpa using this)
      rw [← hZ] at HZ
      refine wp_region_vals (W := wr) 96 7 102 1 (fun | 0 => .pointer (some ⟨x, 0, none⟩) | 1 => .pointer (some ⟨x, 0, none⟩) | 2 => .pointer (some ⟨x, 0, none⟩) | 3 => .slice (some ⟨gh, 0, none⟩) n ch | 4 => .int .i64 (j : Int) | 5 => .string Z | 6 => .pointer (some ⟨gh, j, none⟩) | _ => undef) (by kernel_rfl) (by kernel_rfl) rfl (by omega) (by kernel_rfl) rfl (Nat.le_of_ble_eq_true (by kernel_rfl)) ?hval ?hrest
      case hval =>
        intro i hi z w' hB hF hv
        have k0 := HC.out w' hB
        rcases (show i = 0 ∨ i = 1 ∨ i = 2 ∨ i = 3 ∨ i = 4 ∨ i = 5 ∨ i = 6 by omega) with rfl | rfl | rfl | rfl | rfl | rfl | rfl
        · have t0 : z.tmps[10]?.getD undef = .pointer (some ⟨x, 0, none⟩) := (congrArg (fun z => z.getD undef) (hF.2.2 10 (by omega))).trans (by kernel_rfl)
          clear hv hF
          refine wpOp_value (v := .pointer (some ⟨x, 0, none⟩)) (w' := w') rfl rfl ?_ ⟨rfl, Below.refl _ _⟩
          go_simp
        · have t0 : z.tmps[96]?.getD undef = .pointer (some ⟨x, 0, none⟩) := hv 0 (of_decide_eq_true (by kernel_rfl)) (by omega)
          clear hv hF
          refine wpOp_value (v := .pointer (some ⟨x, 0, none⟩)) (w' := w') rfl rfl ?_ ⟨rfl, Below.refl _ _⟩
          go_simp
        · have t0 : z.tmps[97]?.getD undef = .pointer (some ⟨x, 0, none⟩) := hv 1 (of_decide_eq_true (by kernel_rfl)) (by omega)
          clear hv hF
          refine wpOp_value (v := .pointer (some ⟨x, 0, none⟩)) (w' := w') rfl rfl ?_ ⟨rfl, Below.refl _ _⟩
          go_simp
        · have t0 : z.tmps[98]?.getD undef = .pointer (some ⟨x, 0, none⟩) := hv 2 (of_decide_eq_true (by kernel_rfl)) (by omega)
          clear hv hF
          refine wpOp_value (v := .slice (some ⟨gh, 0, none⟩) n ch) (w' := w') rfl rfl ?_ ⟨rfl, Below.refl _ _⟩
          go_simp
        · have t0 : z.tmps[11]?.getD undef = .int .i64 (j : Int) := (congrArg (fun z => z.getD undef) (hF.2.2 11 (by omega))).trans (by kernel_rfl)
          clear hv hF
          refine wpOp_value (v := .int .i64 (j : Int)) (w' := w') rfl rfl ?_ ⟨rfl, Below.refl _ _⟩
          go_simp
        · clear hv hF
          refine wpOp_call (f := 8) (args := #[.int .i64 256]) rfl rfl (by go_simp) ((HZ.out w').mono ?_)
          rintro e w'' ⟨rfl, hb⟩
          exact ⟨_, rfl, rfl, hb⟩
        · have t0 : z.tmps[99]?.getD undef = .slice (some ⟨gh, 0, none⟩) n ch := hv 3 (of_decide_eq_true (by kernel_rfl)) (by omega)
          have t1 : z.tmps[100]?.getD undef = .int .i64 (j : Int) := hv 4 (of_decide_eq_true (by kernel_rfl)) (by omega)
          clear hv hF
          refine wpOp_value (v := .pointer (some ⟨gh, j, none⟩)) (w' := w') rfl rfl ?_ ⟨rfl, Below.refl _ _⟩
          go_simp
      case hrest =>
        intro w' hB
        have hd5 := HD.out.below hB
        have HB6 := Lib.hid (HB.out.trans (hB.mono HB.out.size))
        have hhm := hd5.home
        rw [begD_len n j (by omega)] at hhm
        have hch : w'.cell? ⟨gh, j, none⟩ = some (.string .empty) := krow_cell hhm (by show ((begD n j).home.map Value.string)[j]? = _; rw [List.getElem?_map, begD_at (by omega)]; rfl)
        have hfh : w'.frozen? ⟨gh, j, none⟩ = false := krow_frozen hhm _
        have HDF : Hid (DocIs (w'.setCell ⟨gh, j, none⟩ (.string Z)) w4.heap.size x (.slice (some ⟨gh, 0, none⟩) n ch) vo vu vw (begD n (j + 1))) := Lib.hid (by
          have hp := hd5.putHome (begD_len n j (by omega)).symm j Z
          rw [hZ, begD_step (by omega)] at hp
          rw [hZ]
          exact hp)
        have HBF : Hid (Below w4.heap.size w4 (w'.setCell ⟨gh, j, none⟩ (.string Z))) := Lib.hid (HB6.out.setCell (hd5.home.lt gh rfl).1 _)
        clear hB hd5 hhm hZ
        refine wpOps_stored (a := 6) (b := 5) rfl (Nat.le_of_ble_eq_true (by kernel_rfl)) (by omega) (by omega) rfl rfl hch hfh ?_
        obtain ⟨w7, hw7⟩ : ∃ w7, w7 = w'.setCell ⟨gh, j, none⟩ (.string Z) := ⟨_, rfl⟩
        rw [← hw7] at HDF HBF ⊢
        clear hch hfh hw7
        simp only [putAll, List.range, List.range.loop, List.foldl, Nat.reduceAdd, List.setIfInBounds_toArray, List.set_cons_succ, List.set_cons_zero]
        go_wp2_with fail
        go_roundw
        case rel => exact ⟨j + 1, by omega, by go_num, HDF.out, HBF.out⟩
        case measure => simp [intOf]; omega
  case rest =>
  obtain ⟨hd, hb⟩ := hcut
  obtain ⟨wr0, rfl⟩ : ∃ wr, wr = wc := ⟨_, rfl⟩
  have HD := Lib.hid hd
  have HB := Lib.hid hb
  clear hd hb
  have HSY : Hid (Calls Tryz.prog 9 #[.pointer (some ⟨x, 0, none⟩)] wr0 fun e w' => ∃ y, e = .returned (.pointer (some ⟨y, 0, none⟩)) ∧ DocAt w' wr0.heap.size y (syncD (startD n)) ∧ Below wr0.heap.size wr0 w') := Lib.hid (by
    have h1 := dsync11_any (n := n) ⟨_, _, _, _, HD.out⟩ (begD_len n n (Nat.le_refl _)) (by simp [begD]) (by have := HNN.out; omega) (by have h2 := HFR.out.run.hok; rw [HFR.out.H] at h2; have h3 := HNN.out; rw [← h3.1] at h2; exact h2) (by simp [begD]) (by simp [begD])
    rw [begD_end] at h1
    exact h1)
  go_wp2_with fail
  refine HSY.out.mono ?_
  rintro e w6 ⟨x1, rfl, hd6, hb6⟩
  obtain ⟨vh1, vo1, vu1, vw1, hdi6⟩ := hd6
  have hdi6 := hdi6.below' HB.out.size
  obtain ⟨bm, hbm⟩ : ∃ bm, bm = w6.heap.size := ⟨_, rfl⟩
  obtain ⟨w7, hw7⟩ : ∃ w7, w7 = w6.alloc (.cells #[.pointer none] 46) := ⟨_, rfl⟩
  have HPL : Hid (Pl11 w w7 gd N w4.heap.size bm 3 (.pointer (some ⟨g, 0, none⟩)) (.pointer (some ⟨x1, 0, none⟩)) (.pointer none)) := Lib.hid (by
    have hb67 : Below w6.heap.size w6 w7 := by rw [hw7]; exact (Below.refl _ _).alloc (Nat.le_refl _) _
    have hb47 : Below w4.heap.size w4 w7 := (HB.out.trans (hb6.mono HB.out.size)).trans (hb67.mono (by have := HB.out.size; have := hb6.size; omega))
    have h46 : w4.heap.size ≤ w6.heap.size := by have := HB.out.size; have := hb6.size; omega
    refine Pl11.start HS4.out hb47 (hdi6.below hb67) HGO.out ?_ (by rw [hw7, hbm]; exact Blk.new w6 _ _) (by rw [hbm]; exact h46) (fun b hb => by have := (hdi6.range b hb).2; omega)
    have hm := start_mat HFR.out
    rw [← HNN.out.1] at hm
    exact hm)
  have HNI : Hid (((nl : Int)) ≤ 60) := Lib.hid (by have := HM1.out; omega)
  clear hdi6 hb6 HSY
  go_upto_region 18 with fail
  rw [← hw7, ← hbm]
  clear hw7 hbm
  go_wp2_with fail
  refine wp_loop (fun a' w' => ∃ (j : Nat) (v7 v10 v13 : Value), j ≤ nl ∧ Pl11 w w' gd N w4.heap.size bm (3 + 2 * j) v7 v10 v13 ∧ ∃ u, a' = ⟨frame11 u (.int .i64 (N : Int)) (.slice A nl c) (.pointer (some ⟨gd, 0, none⟩)) v7 (.int .i64 (n : Int)) v10 (.pointer (some ⟨bm, 0, none⟩)) v13 (.int .i64 (j : Int)), []⟩) (fun a' _ => nl - (intOf (a'.tmps.getD 14 undef)).toNat) ?start ?round
  case start => exact ⟨0, _, _, _, Nat.zero_le _, HPL.out, frame11_ex (by kernel_rfl) (by kernel_rfl) (by kernel_rfl) (by kernel_rfl) (by kernel_rfl) (by kernel_rfl) (by kernel_rfl) (by kernel_rfl) (by kernel_rfl) (by kernel_rfl)⟩
  case round =>
  rintro a' wr ⟨j, v7, v10, v13, hj, hpl, u, rfl⟩
  have HW4 : Hid (w.heap.size ≤ w4.heap.size) := Lib.hid (by
    obtain ⟨_, _, _, h2, _⟩ := HS4.out
    exact h2.size)
  clear HPL HDI HB5 HZ HGO HFR HS4 HD HB
  unfold frame11
  by_cases hlt : j < nl
  rotate_left
  · have hltI : ¬ (j : Int) < (nl : Int) := by omega
    have HBE : Hid (Below w.heap.size w wr) := Lib.hid (by
      obtain ⟨_, _, _, _, _, _, _, _, _, _, _, _, _, _, _, h1, _⟩ := hpl
      obtain ⟨_, _, _, h2, _⟩ := h1.1
      exact h2)
    clear hpl
    go_wp2_with fail
    go_ret
    exact ⟨rfl, HBE.out⟩
  obtain ⟨g, m, K, h, Hc, x, vh, vo, vu, vw, s, Q, Ms, rfl, rfl, hdq, hmc, hgo, hmat, hsd, hmd⟩ := hpl
  have hltI : (j : Int) < (nl : Int) := by omega
  have hjl : j < ds.length := by rw [HIN.out.len]; exact hlt
  obtain ⟨d, hd⟩ : ∃ d, ds[j]? = some d := ⟨_, List.getElem?_eq_getElem hjl⟩
  have hb0 : Below w.heap.size w wr := by
    obtain ⟨_, _, _, h2, _⟩ := hdq.1
    exact h2
  obtain ⟨b, off, rfl, hbw, hbB, hcel⟩ := (HIN.out.lie.below hb0.size hb0) (by omega)
  obtain ⟨q0, q1, q2, q3, -⟩ := hcel j d hd
  obtain ⟨_, _, -, -, -, hcel0⟩ := HIN.out.lie (by omega)
  obtain ⟨-, -, -, -, hin⟩ := hcel0 j d hd
  clear hcel0
  have HLD := Lib.hid (HF1.out d (List.mem_of_getElem? hd))
  have HINN := Lib.hid hin
  have HLC0 := Lib.hid (HCAP.out d (List.mem_of_getElem? hd))
  obtain ⟨kd, a, S, la, lc, l⟩ := d
  obtain ⟨ln, hln⟩ : ∃ ln, ln = l.length := ⟨_, rfl⟩
  simp only [← hln] at q0 q1 q2 q3
  have HLN := Lib.hid hln
  have HLC : Hid (ln ≤ lc) := Lib.hid (by have h1 := HLC0.out; simp only at h1; rw [hln]; exact h1)
  clear HLC0
  obtain ⟨bo, hbo⟩ : ∃ bo, bo = wr.heap.size := ⟨_, rfl⟩
  obtain ⟨w1, hw1⟩ : ∃ w1, w1 = wr.alloc (.cells #[.int .i64 kd, .int .i64 a, .string S, .slice la ln lc] 48) := ⟨_, rfl⟩
  have hb1 : Below wr.heap.size wr w1 := by rw [hw1]; exact (Below.refl _ _).alloc (Nat.le_refl _) _
  have hop1 : Blk w1 bo 48 #[.int .i64 kd, .int .i64 a, .string S, .slice la ln lc] := by rw [hw1, hbo]; exact Blk.new wr _ _
  have hdq1 : DQ w w1 g gd m N K (bo :: Q) Ms := hdq.more hb1 (fun b' hm => by
    rcases List.mem_cons.1 hm with rfl | hm
    · exact .inr ⟨by rw [hbo]; exact Nat.le_refl _, hop1.lt⟩
    · exact .inl hm)
  have hsd1 := hsd.below hdq (fun _ h => h) hb1
  have hmd1 := hmd.below hsd hdq (fun _ h => h) hb1
  have hsw : w.heap.size ≤ bo ∧ bo ∉ Q ∧ bo ≠ bm := by
    rw [hbo]
    refine ⟨hb0.size, fun hm => ?_, fun e => ?_⟩
    · have := hdq.2 _ hm; omega
    · have := hdq.2 _ hsd.bmQ; omega
  have HFI : Hid (Calls Tryz.prog 10 #[.string S] w1 fun e w' => e = .returned (.string (fillB S)) ∧ Below w1.heap.size w1 w') := Lib.hid (fill_any S w1 (by have := HLD.out.1; simp at this; omega))
  have HBO := Lib.hid hsw
  have HMC := Lib.hid hmc
  have HGO := Lib.hid hgo
  have HMAT := Lib.hid hmat
  have HDQ1 := Lib.hid hdq1
  have HSD1 := Lib.hid hsd1
  have HMD1 := Lib.hid hmd1
  have HOP1 := Lib.hid hop1
  have HJ := Lib.hid hlt
  clear hcel hd hjl hdq hmc hgo hmat hsd hmd hb0 hbw hbB hin hln hb1 hdq1 hsd1 hmd1 hop1 hsw hlt hj
  go_upto_region 23 with fail
  rw [← hw1, ← hbo]
  clear q0 q1 q2 q3 hw1 hbo
  have o2 : w1.cell? ⟨bo, 2, none⟩ = some (.string S) := HOP1.out.cell 2
  go_wp2_with fail
  refine HFI.out.mono ?_
  rintro e w2 ⟨rfl, hb2⟩
  have HB2 := Lib.hid hb2
  clear o2 hb2 HFI
  have hop2 := HOP1.out.below HB2.out HOP1.out.lt
  have o2 : w2.cell? ⟨bo, 2, none⟩ = some (.string S) := hop2.cell 2
  clear hop2
  go_upto_if 122 with fail
  go_cut [16] from 123 to 124 (fun v wx => ∃ X : ByteArray, v = .string X ∧ X.size ≤ 100000 ∧ w2 = wx)
  case first =>
    by_cases hS : 60 < S.size
    · have hSI : (60 : Int) < (S.size : Int) := by omega
      go_wp2_with fail
      go_meet
      exact ⟨S, rfl, by have := HLD.out.1; simp at this; omega, rfl⟩
    · have hSI : ¬ (60 : Int) < (S.size : Int) := by omega
      go_wp2_with fail
      go_meet
      exact ⟨fillB S, rfl, by rw [fillB_size]; omega, rfl⟩
  case rest =>
  obtain ⟨X, rfl, hX, rfl⟩ := hcut
  have HX := Lib.hid hX
  have HDQ := Lib.hid (HDQ1.out.below HB2.out)
  have HSD := Lib.hid (HSD1.out.below HDQ1.out (fun _ h => List.mem_cons_of_mem _ h) HB2.out)
  have HMD := Lib.hid (HMD1.out.below HSD1.out HDQ1.out (fun _ h => List.mem_cons_of_mem _ h) HB2.out)
  have HOP := Lib.hid (HOP1.out.below HB2.out HOP1.out.lt)
  have o0 : w2.cell? ⟨bo, 0, none⟩ = some (.int .i64 kd) := HOP.out.cell 0
  have HST := Lib.hid (St.mk HDQ.out HSD.out HMD.out HOP.out HBO.out.2.1 HW4.out)
  have hnN : N - 111 = n := HNN.out.1.symm
  obtain ⟨l1, l2, l3, l4⟩ := HMAT.out.lens HGO.out
  rw [hnN] at l1 l2 l3 l4
  obtain ⟨ob, cO, hvo, -, -⟩ := HST.out.sd.doc.on.form (by rw [l2]; have := HNN.out; omega)
  rw [l2] at hvo
  subst hvo
  obtain ⟨ub, cU, hvu, -, -⟩ := HST.out.sd.doc.used.form (by rw [HMAT.out.used]; exact List.length_pos_of_mem HGO.out.ok.zero)
  obtain ⟨wb, cW, hvw, -, -⟩ := HST.out.sd.doc.was.form (by rw [HMAT.out.was]; exact List.length_pos_of_mem HGO.out.c0)
  obtain ⟨nu, hnu⟩ : ∃ nu, nu = s.used.length := ⟨_, rfl⟩
  obtain ⟨nw, hnw⟩ : ∃ nw, nw = s.was.length := ⟨_, rfl⟩
  rw [← hnu] at hvu l3
  rw [← hnw] at hvw l4
  subst hvu hvw
  have HLH : Hid (s.home.length = n) := Lib.hid l1
  have HLO : Hid (s.on.length = n) := Lib.hid l2
  have HLU : Hid (nu = s.used.length ∧ nu ≤ n) := Lib.hid ⟨hnu, l3⟩
  have HLW : Hid (nw = s.was.length ∧ nw ≤ n) := Lib.hid ⟨hnw, l4⟩
  have hnI89 : (n : Int) ≤ 89 := by have := HNN.out; omega
  clear hnN l1 l2 l3 l4 hnu hnw
  have HLS : Hid (∀ wx, Below w.heap.size w wx → Ints wx w.heap.size la l) := Lib.hid (fun wx hx => HINN.out.ls.below hx)
  have HLL : Hid (ln ≤ 6000 ∧ (la = none → ln = 0 ∧ lc = 0)) := Lib.hid (by
    have h1 := HLD.out.2
    simp only at h1
    refine ⟨by rw [HLN.out]; exact h1, fun e => ?_⟩
    have h2 := HINN.out.ln e
    simp only at h2
    rw [HLN.out]
    exact h2)
  have HJ60 : Hid (3 + 2 * (j + 1) ≤ 130) := Lib.hid (by have := HJ.out; have := HM1.out; omega)
  clear o2 hX HDQ1 HSD1 HMD1 HOP1 HB2 HDQ HSD HMD HINN HLD
  go_upto_block 4 with fail
  clear o0 HOP
  refine wp_cut (fun a' w' => ∃ (v7 v10 v13 : Value), Pl11 w w' gd N w4.heap.size bm (3 + 2 * (j + 1)) v7 v10 v13 ∧ ∃ u, a' = ⟨frame11 u (.int .i64 (N : Int)) (.slice (some ⟨b, off, none⟩) nl c) (.pointer (some ⟨gd, 0, none⟩)) v7 (.int .i64 (n : Int)) v10 (.pointer (some ⟨bm, 0, none⟩)) v13 (.int .i64 (j : Int)), []⟩) ?rest ?first
  case rest =>
    rintro a' wz ⟨v7, v10, v13, hp, u', rfl⟩
    obtain ⟨g2, x2, rfl, rfl, his⟩ := hp.is (by have := HNI.out; have := HJ.out; have := HM1.out; omega)
    have HIS := Lib.hid his
    clear HST HLS HLL HMAT HGO HMC his hp
    have hj60 : (j : Int) ≤ 60 := by have := HNI.out; have := HJ.out; omega
    unfold frame11
    go_wp2_with fail
    refine HIS.out.mono ?_
    rintro e wy ⟨rfl, hp⟩
    have HP := Lib.hid hp
    have HBAD := Lib.hid hp.bad
    clear hp HIS
    go_wp2_with fail
    refine HBAD.out.mono ?_
    rintro e wx ⟨rfl, rfl⟩
    go_wp2_with fail
    have hj1 : (j : Int) + 1 = ((j + 1 : Nat) : Int) := by omega
    rw [hj1]
    refine ⟨⟨j + 1, _, _, _, by have := HJ.out; omega, HP.out, frame11_ex (by kernel_rfl) (by kernel_rfl) (by kernel_rfl) (by kernel_rfl) (by kernel_rfl) (by kernel_rfl) (by kernel_rfl) (by kernel_rfl) (by kernel_rfl) (by kernel_rfl)⟩, meas11 (by kernel_rfl) (by kernel_rfl) HJ.out⟩
  case first =>
  intro J K' hJ hMet
  by_cases k1 : kd = 1
  · subst k1
    have hnN := HNN.out.1.symm
    obtain ⟨AM, hAM⟩ : ∃ b, b = decide (a ∈ s.used) := ⟨_, rfl⟩
    have HAM : Hid (∀ k, Calls Tryz.prog 11 #[.slice (some ⟨ub, 0, none⟩) nu cU, .int .i64 a] (w2.drewN k) fun e w' => e = .returned (.bool AM) ∧ w' = w2.drewN k) := Lib.hid (fun k => by
      have hr := (HST.out.below (below_dn _ k)).sd.doc.used
      rw [← HLU.out.1] at hr
      have h1 := ramong_any a (some ⟨ub, 0, none⟩) cU nu s.used (w2.drewN k) HLU.out.1.symm (row_intsV HLU.out.1 hr) (by have := HLU.out.2; have := HNN.out; omega)
      rw [← hAM] at h1
      exact h1)
    have o1 : w2.cell? ⟨bo, 1, none⟩ = some (.int .i64 a) := HST.out.op.cell 1
    have x2c : w2.cell? ⟨x, 2, none⟩ = some (.slice (some ⟨ub, 0, none⟩) nu cU) := HST.out.sd.doc.blk.cell 2
    go_upto_block 5 with fail
    go_cut [17] from 137 to 173 (fun v17 wx => ∃ (e : Int) (s' : DocS), v17 = .int .i64 e ∧ e = setE K a X ∧ Mat N (setK K a X) h Hc s' ∧ St w wx g gd m N K w4.heap.size bm bo #[.int .i64 1, .int .i64 a, .string S, .slice la ln lc] h Hc K.syncs x vh (.slice (some ⟨ob, 0, none⟩) n cO) (.slice (some ⟨ub, 0, none⟩) nu cU) (.slice (some ⟨wb, 0, none⟩) nw cW) s' Q Ms v13)
    case first =>
      by_cases ha1 : a = 1
      · have hd1 : (a == 1) = true := by simp [ha1]
        have he := HMAT.out.set_no X HGO.out (A := a) (by unfold setOff; rw [hnN]; exact .inl ha1)
        have HE1 := Lib.hid he.1
        have HE2 := Lib.hid he.2
        clear he
        go_wp2_with fail
        go_quiet (first | (go_at_call 11; with_reducible refine Calls.quiet_of_same (HAM.out _)))
        go_wp2_with fail
        go_meet
        exact ⟨15, s, rfl, HE1.out.symm, by rw [HE2.out]; exact HMAT.out, HST.out.below (below_dn _ _)⟩
      have hd1 : (a == 1) = false := by simp [ha1]
      by_cases ha2 : a < 0
      · have hd2 : decide (a < 0) = true := decide_eq_true ha2
        have he := HMAT.out.set_no X HGO.out (A := a) (by unfold setOff; rw [hnN]; exact .inr (.inl ha2))
        have HE1 := Lib.hid he.1
        have HE2 := Lib.hid he.2
        clear he
        go_wp2_with fail
        go_quiet (first | (go_at_call 11; with_reducible refine Calls.quiet_of_same (HAM.out _)))
        go_wp2_with fail
        go_meet
        exact ⟨15, s, rfl, HE1.out.symm, by rw [HE2.out]; exact HMAT.out, HST.out.below (below_dn _ _)⟩
      have hd2 : decide (a < 0) = false := decide_eq_false ha2
      by_cases ha3 : (n : Int) ≤ a
      · have hd3 : decide ((n : Int) ≤ a) = true := decide_eq_true ha3
        have he := HMAT.out.set_no X HGO.out (A := a) (by unfold setOff; rw [hnN]; exact .inr (.inr (.inl ha3)))
        have HE1 := Lib.hid he.1
        have HE2 := Lib.hid he.2
        clear he
        go_wp2_with fail
        go_quiet (first | (go_at_call 11; with_reducible refine Calls.quiet_of_same (HAM.out _)))
        go_wp2_with fail
        go_meet
        exact ⟨15, s, rfl, HE1.out.symm, by rw [HE2.out]; exact HMAT.out, HST.out.below (below_dn _ _)⟩
      have hd3 : decide ((n : Int) ≤ a) = false := decide_eq_false ha3
      cases AM with
      | false =>
        have hmem : a ∉ s.used := of_decide_eq_false hAM.symm
        clear hAM
        have he := HMAT.out.set_no X HGO.out (A := a) (by unfold setOff; rw [hnN]; exact .inr (.inr (.inr hmem)))
        have HE1 := Lib.hid he.1
        have HE2 := Lib.hid he.2
        clear he
        go_wp2_with fail
        go_quiet (first | (go_at_call 11; with_reducible refine Calls.quiet_of_same (HAM.out _)))
        go_wp2_with fail
        go_meet
        exact ⟨15, s, rfl, HE1.out.symm, by rw [HE2.out]; exact HMAT.out, HST.out.below (below_dn _ _)⟩
      | true =>
        have hmem : a ∈ s.used := of_decide_eq_true hAM.symm
        have hoff : ¬ setOff s (N - 111) a := by
          unfold setOff
          rw [hnN]
          intro q
          rcases q with q | q | q | q
          · exact ha1 q
          · exact ha2 q
          · exact ha3 q
          · exact q hmem
        obtain ⟨y1, y2⟩ := HMAT.out.set_yes (x := X) HGO.out hoff
        by_cases hX6 : X.size = 256
        · have hXI : (X.size : Int) = 256 := by omega
          obtain ⟨y3, y4⟩ := y2 hX6
          have HY3 := Lib.hid y3
          have HY4 := Lib.hid y4
          obtain ⟨t, ht⟩ := Int.eq_ofNat_of_zero_le (show 0 ≤ a by omega)
          have htn : t < n := by omega
          have HTA : Hid (a = (t : Int)) := Lib.hid ht
          have HTN : Hid (t < n) := Lib.hid htn
          have HC : Hid (∀ w', Below w2.heap.size w2 w' → w'.cell? ⟨x, 1, none⟩ = some (.slice (some ⟨ob, 0, none⟩) n cO) ∧ w'.cell? ⟨bo, 1, none⟩ = some (.int .i64 a)) := Lib.hid (fun w' hw => ⟨(HST.out.below hw).sd.doc.blk.cell 1, (HST.out.below hw).op.cell 1⟩)
          clear y1 y2 y3 y4 hoff hmem hAM ht htn
          go_wp2_with fail
          go_quiet (first | (go_at_call 11; with_reducible refine Calls.quiet_of_same (HAM.out _)))
          go_wp2_with fail
          refine wp_region_vals (W := _) 137 8 144 1 (fun | 0 => .pointer (some ⟨x, 0, none⟩) | 1 => .pointer (some ⟨x, 0, none⟩) | 2 => .pointer (some ⟨x, 1, none⟩) | 3 => .slice (some ⟨ob, 0, none⟩) n cO | 4 => .pointer (some ⟨bo, 1, none⟩) | 5 => .int .i64 a | 6 => .string X | 7 => .pointer (some ⟨ob, t, none⟩) | _ => undef) (by kernel_rfl) (by kernel_rfl) rfl (by omega) (by kernel_rfl) rfl (Nat.le_of_ble_eq_true (by kernel_rfl)) ?hval ?hrest
          case hval =>
            intro i hi z w' hB hF hv
            have hB : Below w2.heap.size w2 w' := (below_dn _ _).trans hB
            rcases (show i = 0 ∨ i = 1 ∨ i = 2 ∨ i = 3 ∨ i = 4 ∨ i = 5 ∨ i = 6 ∨ i = 7 by omega) with rfl | rfl | rfl | rfl | rfl | rfl | rfl | rfl
            · have t0 : z.tmps[10]?.getD undef = .pointer (some ⟨x, 0, none⟩) := (congrArg (fun z => z.getD undef) (hF.2.2 10 (by omega))).trans (by kernel_rfl)
              clear hv hF
              refine wpOp_value (v := .pointer (some ⟨x, 0, none⟩)) (w' := w') rfl rfl ?_ ⟨rfl, Below.refl _ _⟩
              go_simp
            · have t0 : z.tmps[137]?.getD undef = .pointer (some ⟨x, 0, none⟩) := hv 0 (of_decide_eq_true (by kernel_rfl)) (by omega)
              clear hv hF
              refine wpOp_value (v := .pointer (some ⟨x, 0, none⟩)) (w' := w') rfl rfl ?_ ⟨rfl, Below.refl _ _⟩
              go_simp
            · have t0 : z.tmps[138]?.getD undef = .pointer (some ⟨x, 0, none⟩) := hv 1 (of_decide_eq_true (by kernel_rfl)) (by omega)
              clear hv hF
              refine wpOp_value (v := .pointer (some ⟨x, 1, none⟩)) (w' := w') rfl rfl ?_ ⟨rfl, Below.refl _ _⟩
              go_simp
            · have t0 : z.tmps[139]?.getD undef = .pointer (some ⟨x, 1, none⟩) := hv 2 (of_decide_eq_true (by kernel_rfl)) (by omega)
              obtain ⟨z0, -⟩ := HC.out w' hB
              clear hv hF
              refine wpOp_value (v := .slice (some ⟨ob, 0, none⟩) n cO) (w' := w') rfl rfl ?_ ⟨rfl, Below.refl _ _⟩
              go_simp
            · have t0 : z.tmps[15]?.getD undef = .pointer (some ⟨bo, 0, none⟩) := (congrArg (fun z => z.getD undef) (hF.2.2 15 (by omega))).trans (by kernel_rfl)
              clear hv hF
              refine wpOp_value (v := .pointer (some ⟨bo, 1, none⟩)) (w' := w') rfl rfl ?_ ⟨rfl, Below.refl _ _⟩
              go_simp
            · have t0 : z.tmps[141]?.getD undef = .pointer (some ⟨bo, 1, none⟩) := hv 4 (of_decide_eq_true (by kernel_rfl)) (by omega)
              obtain ⟨-, z0⟩ := HC.out w' hB
              clear hv hF
              refine wpOp_value (v := .int .i64 a) (w' := w') rfl rfl ?_ ⟨rfl, Below.refl _ _⟩
              go_simp
            · have t0 : z.tmps[16]?.getD undef = .string X := (congrArg (fun z => z.getD undef) (hF.2.2 16 (by omega))).trans (by kernel_rfl)
              clear hv hF
              refine wpOp_value (v := .string X) (w' := w') rfl rfl ?_ ⟨rfl, Below.refl _ _⟩
              go_simp
            · have t0 : z.tmps[140]?.getD undef = .slice (some ⟨ob, 0, none⟩) n cO := hv 3 (of_decide_eq_true (by kernel_rfl)) (by omega)
              have t1 : z.tmps[142]?.getD undef = .int .i64 a := hv 5 (of_decide_eq_true (by kernel_rfl)) (by omega)
              have ht1 := HTA.out
              have ht2 := HTN.out
              clear hv hF
              refine wpOp_value (v := .pointer (some ⟨ob, t, none⟩)) (w' := w') rfl rfl ?_ ⟨rfl, Below.refl _ _⟩
              go_simp
          case hrest =>
            intro w' hB
            have hB : Below w2.heap.size w2 w' := (below_dn _ _).trans hB
            have hst := HST.out.below hB
            obtain ⟨z, hz⟩ : ∃ z, s.on[t]? = some z := ⟨_, List.getElem?_eq_getElem (by rw [HLO.out]; exact HTN.out)⟩
            have hro := hst.sd.doc.on
            simp only [HLO.out] at hro
            have ct : w'.cell? ⟨ob, t, none⟩ = some (.string z) := krow_cell hro (by show (s.on.map Value.string)[t]? = _; rw [List.getElem?_map, hz]; rfl)
            have ft : w'.frozen? ⟨ob, t, none⟩ = false := krow_frozen hro _
            have HN := Lib.hid (hst.on HLO.out.symm t X)
            clear hst hro hz hB
            refine wpOps_stored (a := 7) (b := 6) rfl (Nat.le_of_ble_eq_true (by kernel_rfl)) (by omega) (by omega) rfl rfl ct ft ?_
            clear ct ft
            obtain ⟨w7, hw7⟩ : ∃ w7, w7 = w'.setCell ⟨ob, t, none⟩ (.string X) := ⟨_, rfl⟩
            rw [← hw7] at HN ⊢
            clear hw7
            simp only [putAll, List.range, List.range.loop, List.foldl, Nat.reduceAdd, List.setIfInBounds_toArray, List.set_cons_succ, List.set_cons_zero]
            go_wp2_with fail
            go_meet
            refine ⟨0, { s with on := s.on.set a.toNat X }, rfl, HY3.out.symm, HY4.out, ?_⟩
            have e5 : a.toNat = t := by rw [HTA.out]; rfl
            rw [e5]
            exact HN.out
        · have hXI : ¬ (X.size : Int) = 256 := by omega
          obtain ⟨y3, y4⟩ := y1 hX6
          have HY3 := Lib.hid y3
          have HY4 := Lib.hid y4
          clear y1 y2 y3 y4 hoff hmem hAM
          go_wp2_with fail
          go_quiet (first | (go_at_call 11; with_reducible refine Calls.quiet_of_same (HAM.out _)))
          go_wp2_with fail
          go_meet
          exact ⟨1, s, rfl, HY3.out.symm, by rw [HY4.out]; exact HMAT.out, HST.out.below (below_dn _ _)⟩
    case rest =>
    obtain ⟨e, s', rfl, he, hm', hst⟩ := hcut
    obtain ⟨w8, rfl⟩ : ∃ w8, w8 = wc := ⟨_, rfl⟩
    have HSE := Lib.hid (gmk_set hst.dq.1 HGO.out (by have := HMC.out; have := HJ60.out; omega) a HX.out)
    rw [← he] at HSE
    have HM' := Lib.hid hm'
    have HS' := Lib.hid hst
    have o1' : w8.cell? ⟨bo, 1, none⟩ = some (.int .i64 a) := hst.op.cell 1
    have hself : (e == e) = true := by simp
    clear hm' hst he o1 x2c HAM hAM
    go_wp2_with fail
    refine HSE.out.mono ?_
    rintro e' w9 ⟨rfl, ht9⟩
    have hst9 := HS'.out.turn ht9
    rw [show K.syncs = (setK K a X).syncs by unfold setK layK; split <;> first | rfl | (split <;> rfl)] at hst9
    have HP := Lib.hid (hst9.fin (cc := 3 + 2 * (j + 1)) (by have := HMC.out; omega) (HGO.out.set a X) (by omega) HM'.out)
    clear ht9 hst9 o1'
    go_wp2_with fail
    refine Met.intro (hJ _ _ ⟨_, _, _, HP.out, frame11_ex (by kernel_rfl) (by kernel_rfl) (by kernel_rfl) (by kernel_rfl) (by kernel_rfl) (by kernel_rfl) (by kernel_rfl) (by kernel_rfl) (by kernel_rfl) (by kernel_rfl)⟩)
  by_cases k2 : kd = 2
  · subst k2
    have hnN := HNN.out.1.symm
    have hmm : m < 1000000 := by have := HMC.out; have := HJ60.out; omega
    obtain ⟨k, hkl, hka, hkn⟩ := first_gap s.used
    have hle := HMAT.out.new_at HGO.out hka hkn
    have HNE := Lib.hid (gmk_new HST.out.dq.1 HGO.out hmm hle HX.out)
    have HK : Hid (k ≤ nu ∧ k ≤ n) := Lib.hid (by have h1 := HLU.out; rw [← h1.1] at hkl; omega)
    have HKA := Lib.hid hka
    have HKN := Lib.hid hkn
    have HLE := Lib.hid hle
    clear hkl hka hkn hle hmm
    go_wp2_with fail
    refine HNE.out.mono ?_
    rintro e w3 hways
    obtain ⟨va, ve, K2, rfl, ht3, hway⟩ : ∃ (va ve : Int) (K2 : KD), e = .returned (.tuple #[.int .i64 va, .int .i64 ve]) ∧ DMk w w3 g gd (m + 1) N K2 (heldOf w2 (bo :: Q) ++ Ms) ∧ ((X.size ≠ 256 ∧ va = 0 ∧ ve = 1 ∧ K = K2) ∨ (X.size = 256 ∧ k = n ∧ va = 0 ∧ ve = 20 ∧ K = K2) ∨ (X.size = 256 ∧ k < n ∧ va = (k : Int) ∧ ve = 0 ∧ newK K k X = K2)) := by
      rw [hnN] at hways
      rcases hways with ⟨h1, h2, h3⟩ | ⟨h1, h2, h3, h4⟩ | ⟨h1, h2, h3, h4⟩
      · exact ⟨0, 1, K, h2, h3, .inl ⟨h1, rfl, rfl, rfl⟩⟩
      · exact ⟨0, 20, K, h3, h4, .inr (.inl ⟨h1, h2, rfl, rfl, rfl⟩)⟩
      · exact ⟨_, _, _, h3, h4, .inr (.inr ⟨h1, h2, rfl, rfl, rfl⟩)⟩
    have hs3 := HST.out.turn ht3
    have HT3 := Lib.hid hs3
    have HWAY := Lib.hid hway
    have x2c : w3.cell? ⟨x, 2, none⟩ = some (.slice (some ⟨ub, 0, none⟩) nu cU) := hs3.sd.doc.blk.cell 2
    have hru := hs3.sd.doc.used
    simp only [← HLU.out.1] at hru
    have HRU := Lib.hid hru
    clear ht3 hways hway hs3 HNE hru
    go_upto_block 6 with fail
    go_cut [20] from 189 to 208 (fun v wx => v = .int .i64 (k : Int) ∧ w3 = wx)
    case first =>
      as_aux_lemma =>
      refine id ?_
      go_wp2_with fail
      go_loopw [20] (fun v wr => ∃ t : Nat, t ≤ k ∧ v = .int .i64 (t : Int) ∧ w3 = wr) (fun v _ => k - (intOf v).toNat)
      case atStart => exact ⟨0, Nat.zero_le _, rfl, rfl⟩
      case round =>
        obtain ⟨t, ht, rfl, rfl⟩ := hrel
        by_cases hlt : t < k
        · have htn : t < nu := by have := HK.out; omega
          have htu : (t : Int) < (nu : Int) := by omega
          have ct : w3.cell? ⟨ub, t, none⟩ = some (.int .i64 (t : Int)) := krow_cell HRU.out (by show (s.used.map (Value.int .i64))[t]? = _; rw [List.getElem?_map, HKA.out t hlt]; rfl)
          have hself : ((t : Int) == (t : Int)) = true := by simp
          have hn89 : nu ≤ 89 := by have := HLU.out; omega
          go_wp2_with fail
          go_roundw
          case rel => exact ⟨t + 1, by omega, by go_num, trivial⟩
          case measure => simp [intOf]; omega
        · obtain rfl : t = k := by omega
          by_cases htn : t < nu
          · have htu : (t : Int) < (nu : Int) := by omega
            obtain ⟨y, hy⟩ : ∃ y, s.used[t]? = some y := ⟨_, List.getElem?_eq_getElem (by rw [← HLU.out.1]; exact htn)⟩
            have ct : w3.cell? ⟨ub, t, none⟩ = some (.int .i64 y) := krow_cell HRU.out (by show (s.used.map (Value.int .i64))[t]? = _; rw [List.getElem?_map, hy]; rfl)
            have hne : ¬ y = (t : Int) := fun e => HKN.out (by rw [hy, e])
            have hself : (y == (t : Int)) = false := by simpa using hne
            go_wp2_with fail
            go_meet
            exact ⟨rfl, rfl⟩
          · have htu : ¬ (t : Int) < (nu : Int) := by omega
            go_wp2_with fail
            go_meet
            exact ⟨rfl, rfl⟩
    case rest =>
    obtain ⟨rfl, rfl⟩ := hcut
    rcases HWAY.out with ⟨h1, rfl, rfl, rfl⟩ | ⟨h1, h2, rfl, rfl, rfl⟩ | ⟨h1, h2, rfl, rfl, rfl⟩
    · have hXI : ¬ (X.size : Int) = 256 := by omega
      have HP := Lib.hid (HT3.out.fin (cc := 3 + 2 * (j + 1)) (by have := HMC.out; omega) HGO.out (by omega) HMAT.out)
      clear x2c
      go_wp2_with fail
      refine Met.intro (hJ _ _ ⟨_, _, _, HP.out, frame11_ex (by kernel_rfl) (by kernel_rfl) (by kernel_rfl) (by kernel_rfl) (by kernel_rfl) (by kernel_rfl) (by kernel_rfl) (by kernel_rfl) (by kernel_rfl) (by kernel_rfl)⟩)
    · have hXI : (X.size : Int) = 256 := by omega
      have hkI : (k : Int) = (n : Int) := by omega
      have hself : ((k : Int) == (n : Int)) = true := by simp [h2]
      have HP := Lib.hid (HT3.out.fin (cc := 3 + 2 * (j + 1)) (by have := HMC.out; omega) HGO.out (by omega) HMAT.out)
      clear x2c
      go_wp2_with fail
      refine Met.intro (hJ _ _ ⟨_, _, _, HP.out, frame11_ex (by kernel_rfl) (by kernel_rfl) (by kernel_rfl) (by kernel_rfl) (by kernel_rfl) (by kernel_rfl) (by kernel_rfl) (by kernel_rfl) (by kernel_rfl) (by kernel_rfl)⟩)
    · have hXI : (X.size : Int) = 256 := by omega
      have hkI : ¬ (k : Int) = (n : Int) := by omega
      have HNM := Lib.hid (HMAT.out.new (k := k) (by rw [hnN]; exact h2) X)
      have HGN := Lib.hid (HGO.out.new HLE.out (by rw [hnN]; exact h2) h1)
      have HPU := Lib.hid (rput_more (k : Int) (some ⟨ub, 0, none⟩) cU nu s.used w4.heap.size w3 HLU.out.1.symm HRU.out (by have := HLU.out.2; have := HNN.out; omega))
      go_wp2_with fail
      refine HPU.out.mono ?_
      rintro e wp ⟨A', c', rfl, hwp, hbp⟩
      have x2c : wp.cell? ⟨x, 2, none⟩ = some (.slice (some ⟨ub, 0, none⟩) nu cU) := (HT3.out.below hbp).sd.doc.blk.cell 2
      have x2f : wp.frozen? ⟨x, 2, none⟩ = false := (HT3.out.below hbp).sd.doc.blk.frozen 2
      obtain ⟨Q', hs5⟩ := HT3.out.used (v' := .slice A' (putL (k : Int) s.used).length c') (l := putL (k : Int) s.used) hbp HT3.out.big (by
        rcases hwp with ⟨rfl, rfl, e⟩ | hwp
        · exact .inl ⟨by rw [e, ← HLU.out.1], e⟩
        · exact .inr hwp)
      have HS5 := Lib.hid hs5
      clear hs5 hwp hbp HPU
      go_upto_region 43 with fail
      obtain ⟨w5, hw5⟩ : ∃ w5, w5 = wp.setCell ⟨x, 2, none⟩ (.slice A' (putL (k : Int) s.used).length c') := ⟨_, rfl⟩
      rw [← hw5] at HS5 ⊢
      clear hw5 x2c x2f
      have hkn : k < n := h2
      have hkl : (k : Int) < (n : Int) := by omega
      have x1c : w5.cell? ⟨x, 1, none⟩ = some (.slice (some ⟨ob, 0, none⟩) n cO) := HS5.out.sd.doc.blk.cell 1
      obtain ⟨z, hz⟩ : ∃ z, s.on[k]? = some z := ⟨_, List.getElem?_eq_getElem (by rw [HLO.out]; exact h2)⟩
      have hro := HS5.out.sd.doc.on
      simp only [HLO.out] at hro
      have ct : w5.cell? ⟨ob, k, none⟩ = some (.string z) := krow_cell hro (by show (s.on.map Value.string)[k]? = _; rw [List.getElem?_map, hz]; rfl)
      have ft : w5.frozen? ⟨ob, k, none⟩ = false := krow_frozen hro _
      have HP := Lib.hid ((HS5.out.on HLO.out.symm k X).fin (cc := 3 + 2 * (j + 1)) (by have := HMC.out; omega) HGN.out (by omega) HNM.out)
      have hself : ((k : Int) == (k : Int)) = true := by simp
      clear hro hz
      go_wp2_with fail
      refine Met.intro (hJ _ _ ⟨_, _, _, HP.out, frame11_ex (by kernel_rfl) (by kernel_rfl) (by kernel_rfl) (by kernel_rfl) (by kernel_rfl) (by kernel_rfl) (by kernel_rfl) (by kernel_rfl) (by kernel_rfl) (by kernel_rfl)⟩)
  by_cases k3 : kd = 3
  · subst k3
    have hnN := HNN.out.1.symm
    have o3 : w2.cell? ⟨bo, 3, none⟩ = some (.slice la ln lc) := HST.out.op.cell 3
    go_upto_block 9 with fail
    go_cut [21] from 254 to 291 (fun v wx => ∃ e : Int, v = .int .i64 e ∧ ((e = 0 ∧ okTo s.used l ln) ∨ (e = 15 ∧ ¬ okTo s.used l ln)) ∧ St w wx g gd m N K w4.heap.size bm bo #[.int .i64 3, .int .i64 a, .string S, .slice la ln lc] h Hc K.syncs x vh (.slice (some ⟨ob, 0, none⟩) n cO) (.slice (some ⟨ub, 0, none⟩) nu cU) (.slice (some ⟨wb, 0, none⟩) nw cW) s Q Ms v13)
    case first =>
      as_aux_lemma =>
      refine id ?_
      go_wp2_with fail
      go_loopw [21, 22] (fun v i wr => ∃ (e : Int) (t : Nat), t ≤ ln ∧ v = .int .i64 e ∧ i = .int .i64 (t : Int) ∧ ((e = 0 ∧ okTo s.used l t) ∨ (e = 15 ∧ ¬ okTo s.used l t)) ∧ St w wr g gd m N K w4.heap.size bm bo #[.int .i64 3, .int .i64 a, .string S, .slice la ln lc] h Hc K.syncs x vh (.slice (some ⟨ob, 0, none⟩) n cO) (.slice (some ⟨ub, 0, none⟩) nu cU) (.slice (some ⟨wb, 0, none⟩) nw cW) s Q Ms v13) (fun _ i _ => ln - (intOf i).toNat)
      case atStart => exact ⟨0, 0, Nat.zero_le _, rfl, rfl, .inl ⟨rfl, okTo_zero _ _⟩, HST.out⟩
      case round =>
        obtain ⟨e, t, ht, rfl, rfl, he, hst⟩ := hrel
        have HE := Lib.hid he
        have HS := Lib.hid hst
        clear o3
        have o3 : wr.cell? ⟨bo, 3, none⟩ = some (.slice la ln lc) := hst.op.cell 3
        have x2c : wr.cell? ⟨x, 2, none⟩ = some (.slice (some ⟨ub, 0, none⟩) nu cU) := hst.sd.doc.blk.cell 2
        have hln := HLL.out.1
        have hlc := HLC.out
        clear he hst
        by_cases hlt : t < ln
        rotate_left
        · obtain rfl : t = ln := by omega
          go_wp2_with fail
          go_meet
          exact ⟨e, rfl, HE.out, HS.out⟩
        have htI : (t : Int) < (ln : Int) := by omega
        obtain ⟨y, hy⟩ : ∃ y, l[t]? = some y := ⟨_, List.getElem?_eq_getElem (by rw [← HLN.out]; exact hlt)⟩
        obtain ⟨pb, po, hA, hbB, hc⟩ := HLS.out wr HS.out.at0 (by have := HLN.out; omega)
        have ot : wr.cell? ⟨pb, po + t, none⟩ = some (.int .i64 y) := hc t y hy
        have HY := Lib.hid hy
        obtain ⟨AM, hAM⟩ : ∃ q, q = decide (y ∈ s.used) := ⟨_, rfl⟩
        obtain ⟨AT, hAT⟩ : ∃ q, q = decide (y ∈ l.take t) := ⟨_, rfl⟩
        have HAM : Hid (∀ k, Calls Tryz.prog 11 #[.slice (some ⟨ub, 0, none⟩) nu cU, .int .i64 y] (wr.drewN k) fun e w' => e = .returned (.bool AM) ∧ w' = wr.drewN k) := Lib.hid (fun k => by
          have hr := (HS.out.below (below_dn _ k)).sd.doc.used
          rw [← HLU.out.1] at hr
          have h1 := ramong_any y (some ⟨ub, 0, none⟩) cU nu s.used (wr.drewN k) HLU.out.1.symm (row_intsV HLU.out.1 hr) (by have := HLU.out.2; have := HNN.out; omega)
          rw [← hAM] at h1
          exact h1)
        have HAT : Hid (∀ k, Calls Tryz.prog 11 #[.slice (some ⟨pb, po, none⟩) t lc, .int .i64 y] (wr.drewN k) fun e w' => e = .returned (.bool AT) ∧ w' = wr.drewN k) := Lib.hid (fun k => by
          have hi := (HLS.out (wr.drewN k) (HS.out.below (below_dn _ k)).at0).more (HS.out.below (below_dn _ k)).at0.size
          have h1 := ramong_any y (some ⟨pb, po, none⟩) lc t (l.take t) (wr.drewN k) (by rw [List.length_take, ← HLN.out]; omega) (fun hp => by
            rw [List.length_take] at hp
            obtain ⟨b1, o1, e1, e2, e3⟩ := hi (by omega)
            rw [hA] at e1
            injection e1 with e1
            injection e1 with e1 e1'
            subst e1 e1'
            refine ⟨_, _, rfl, e2, fun j z hz => e3 j z ?_⟩
            rw [List.getElem?_take] at hz
            split at hz
            · exact hz
            · cases hz) (by omega)
          rw [← hAT] at h1
          exact h1)
        subst hA
        clear hc hy
        by_cases hy2 : y < 2
        · have hd1 : decide (y < 2) = true := decide_eq_true hy2
          clear hAM hAT
          have HB := Lib.hid ((badAt_at (H := s.used) HY.out).2 (.inl hy2))
          go_wp2_with fail
          go_quiet (first | (go_at_call 11; with_reducible refine Calls.quiet_of_same (HAM.out _)) | (go_at_call 11; with_reducible refine Calls.quiet_of_same (HAT.out _)))
          go_wp2_with fail
          go_roundw
          case rel => exact ⟨15, t + 1, by omega, rfl, by go_num, .inr ⟨rfl, fun z => (okTo_succ.1 z).2 HB.out⟩, HS.out.below (below_dn _ _)⟩
          case measure => simp [intOf]; omega
        have hd1 : decide (y < 2) = false := decide_eq_false hy2
        cases AM with
        | false =>
          have HM := Lib.hid (of_decide_eq_false hAM.symm)
          clear hAM hAT
          have HB := Lib.hid ((badAt_at (H := s.used) HY.out).2 (.inr (.inl HM.out)))
          go_wp2_with fail
          go_quiet (first | (go_at_call 11; with_reducible refine Calls.quiet_of_same (HAM.out _)) | (go_at_call 11; with_reducible refine Calls.quiet_of_same (HAT.out _)))
          go_wp2_with fail
          go_roundw
          case rel => exact ⟨15, t + 1, by omega, rfl, by go_num, .inr ⟨rfl, fun z => (okTo_succ.1 z).2 HB.out⟩, HS.out.below (below_dn _ _)⟩
          case measure => simp [intOf]; omega
        | true =>
          have HM := Lib.hid (of_decide_eq_true hAM.symm)
          clear hAM
          cases AT with
          | true =>
            have HT := Lib.hid (of_decide_eq_true hAT.symm)
            clear hAT
            have HB := Lib.hid ((badAt_at (H := s.used) HY.out).2 (.inr (.inr HT.out)))
            go_wp2_with fail
            go_quiet (first | (go_at_call 11; with_reducible refine Calls.quiet_of_same (HAM.out _)) | (go_at_call 11; with_reducible refine Calls.quiet_of_same (HAT.out _)))
            go_wp2_with fail
            go_roundw
            case rel => exact ⟨15, t + 1, by omega, rfl, by go_num, .inr ⟨rfl, fun z => (okTo_succ.1 z).2 HB.out⟩, HS.out.below (below_dn _ _)⟩
            case measure => simp [intOf]; omega
          | false =>
            have HT := Lib.hid (of_decide_eq_false hAT.symm)
            clear hAT
            have HNB : Hid (¬ badAt s.used l t) := Lib.hid (fun z => by
              rcases (badAt_at HY.out).1 z with q | q | q
              · exact hy2 q
              · exact q HM.out
              · exact HT.out q)
            go_wp2_with fail
            go_quiet (first | (go_at_call 11; with_reducible refine Calls.quiet_of_same (HAM.out _)) | (go_at_call 11; with_reducible refine Calls.quiet_of_same (HAT.out _)))
            go_wp2_with fail
            go_roundw
            case rel =>
              refine ⟨e, t + 1, by omega, rfl, by go_num, ?_, HS.out.below (below_dn _ _)⟩
              rcases HE.out with ⟨e1, e2⟩ | ⟨e1, e2⟩
              · exact .inl ⟨e1, okTo_succ.2 ⟨e2, HNB.out⟩⟩
              · exact .inr ⟨e1, fun z => e2 (okTo_succ.1 z).1⟩
            case measure => simp [intOf]; omega
    case rest =>
    obtain ⟨e, rfl, he, hst⟩ := hcut
    obtain ⟨w6, rfl⟩ : ∃ w6, w6 = wc := ⟨_, rfl⟩
    have HE := Lib.hid he
    have HS := Lib.hid hst
    clear he hst o3
    go_upto_block 11 with fail
    go_cut [21] from 292 to 325 (fun v wx => v = .int .i64 (dropE K l) ∧ ∃ vu' s' Q', Mat N (dropK K l) h Hc s' ∧ St w wx g gd m N K w4.heap.size bm bo #[.int .i64 3, .int .i64 a, .string S, .slice la ln lc] h Hc K.syncs x vh (.slice (some ⟨ob, 0, none⟩) n cO) vu' (.slice (some ⟨wb, 0, none⟩) nw cW) s' Q' Ms v13)
    case first =>
      have o3 : w6.cell? ⟨bo, 3, none⟩ = some (.slice la ln lc) := HS.out.op.cell 3
      rcases HE.out with ⟨rfl, hok⟩ | ⟨rfl, hok⟩
      rotate_left
      · have hno := HMAT.out.drop_no HGO.out (l := l) (Classical.byContradiction fun z => hok (by have h1 := okTo_all.2 z; rw [← HLN.out] at h1; exact h1))
        have HNO1 := Lib.hid hno.1
        have HNO2 := Lib.hid hno.2
        clear hno hok
        go_wp2_with fail
        go_loopw [23] (fun i wr => i = .int .i64 0 ∧ w6 = wr) (fun _ _ => 0)
        case atStart => exact ⟨rfl, rfl⟩
        case round =>
          obtain ⟨rfl, rfl⟩ := hrel
          by_cases h0 : (0 : Int) < (ln : Int)
          · go_wp2_with fail
            go_meet
            exact ⟨by rw [HNO1.out], _, s, Q, by rw [HNO2.out]; exact HMAT.out, HS.out⟩
          · go_wp2_with fail
            go_meet
            exact ⟨by rw [HNO1.out], _, s, Q, by rw [HNO2.out]; exact HMAT.out, HS.out⟩
      have hok : ¬ ∃ j, badAt s.used l j := okTo_all.1 (by rw [← HLN.out]; exact hok)
      have HBT : Hid (∀ t y, l[t]? = some y → 2 ≤ y ∧ y < (n : Int)) := Lib.hid (fun t y hy => by
        have h1 : ¬ (y < 2 ∨ y ∉ s.used ∨ y ∈ l.take t) := fun z => hok ⟨t, (badAt_at hy).2 z⟩
        have h2 : y ∈ s.used := Classical.byContradiction fun z => h1 (.inr (.inl z))
        have h3 : ¬ y < 2 := fun z => h1 (.inl z)
        rw [HMAT.out.used] at h2
        have h4 := HGO.out.hok.range y h2
        omega)
      have HBM : Hid (∀ y ∈ l, 2 ≤ y ∧ y < (n : Int)) := Lib.hid (fun y hy => by
        obtain ⟨t, ht⟩ := List.getElem?_of_mem hy
        exact HBT.out t y ht)
      have HDY := Lib.hid (HMAT.out.drop_yes HGO.out (l := l) hok (s' := { s with on := wipe l s.on l.length, used := dropF s.used l }) ⟨rfl, rfl, rfl, wipe_len _ _ _⟩ (fun t ht => by
        have h1 := wipe_get l s.on (fun x hx => by have := HBM.out x hx; omega) (fun x hx => by have := HBM.out x hx; rw [HLO.out]; omega) l.length (Nat.le_refl _) t
        rw [List.take_length] at h1
        exact h1))
      clear hok
      go_wp2_with fail
      go_loopw [23] (fun i wr => ∃ (t : Nat) (pA : Option Addr) (pc : Nat) (Q' : List Nat), t ≤ ln ∧ i = .int .i64 (t : Int) ∧ St w wr g gd m N K w4.heap.size bm bo #[.int .i64 3, .int .i64 a, .string S, .slice la ln lc] h Hc K.syncs x vh (.slice (some ⟨ob, 0, none⟩) n cO) (.slice pA (dropT s.used l t).length pc) (.slice (some ⟨wb, 0, none⟩) nw cW) { s with on := wipe l s.on t, used := dropT s.used l t } Q' Ms v13) (fun i _ => ln - (intOf i).toNat)
      case atStart =>
        refine ⟨0, some ⟨ub, 0, none⟩, cU, Q, Nat.zero_le _, rfl, ?_⟩
        have h1 := HS.out
        rw [HLU.out.1] at h1
        exact h1
      case round =>
        obtain ⟨t, pA, pc, Q', ht, rfl, hst⟩ := hrel
        have HW := Lib.hid hst
        clear o3
        have o3 : wr.cell? ⟨bo, 3, none⟩ = some (.slice la ln lc) := hst.op.cell 3
        have hln := HLL.out.1
        clear hst
        by_cases hlt : t < ln
        rotate_left
        · obtain rfl : t = ln := by omega
          go_wp2_with fail
          go_meet
          refine ⟨by rw [HDY.out.1], .slice pA (dropF s.used l).length pc, _, Q', HDY.out.2, ?_⟩
          have h1 := HW.out
          rw [HLN.out, dropT_all] at h1
          rw [HLN.out]
          exact h1
        have htI : (t : Int) < (ln : Int) := by omega
        obtain ⟨y, hy⟩ : ∃ y, l[t]? = some y := ⟨_, List.getElem?_eq_getElem (by rw [← HLN.out]; exact hlt)⟩
        obtain ⟨y2, yl⟩ := HBT.out t y hy
        obtain ⟨yn, hyn⟩ := Int.eq_ofNat_of_zero_le (show 0 ≤ y by omega)
        subst hyn
        obtain ⟨pb, po, hA, hbB, hc⟩ := HLS.out wr HW.out.at0 (by have := HLN.out; omega)
        have HCT : Hid (∀ w', Below wr.heap.size wr w' → w'.cell? ⟨pb, po + t, none⟩ = some (.int .i64 (yn : Int))) := Lib.hid (fun w' hb => by
          have hi := HLS.out w' (HW.out.below hb).at0 (by have := HLN.out; omega)
          obtain ⟨b1, o1, e1, e2, e3⟩ := hi
          rw [hA] at e1
          injection e1 with e1
          injection e1 with e1 e1'
          subst e1 e1'
          exact e3 t _ hy)
        have HPB := Lib.hid (Nat.lt_of_lt_of_le hbB HW.out.at0.size)
        have HY := Lib.hid hy
        have HYN : Hid (yn < n) := Lib.hid (by omega)
        subst hA
        obtain ⟨y, hyy⟩ : ∃ y : Int, y = (yn : Int) := ⟨_, rfl⟩
        obtain ⟨dl, hdl⟩ : ∃ dl, dl = dropT s.used l t := ⟨_, rfl⟩
        obtain ⟨kn, hkn⟩ : ∃ kn, kn = dl.length := ⟨_, rfl⟩
        have HDL := Lib.hid hdl
        have HKN := Lib.hid hkn
        have HYY := Lib.hid hyy
        rw [← hdl, ← hkn] at HW
        rw [← hyy] at HCT
        have HC : Hid (∀ w', Below wr.heap.size wr w' → w'.cell? ⟨x, 2, none⟩ = some (.slice pA kn pc) ∧ w'.cell? ⟨bo, 3, none⟩ = some (.slice (some ⟨pb, po, none⟩) ln lc) ∧ w'.cell? ⟨pb, po + t, none⟩ = some (.int .i64 y) ∧ w'.cell? ⟨x, 1, none⟩ = some (.slice (some ⟨ob, 0, none⟩) n cO)) := Lib.hid (fun w' hw => ⟨(HW.out.below hw).sd.doc.blk.cell 2, (HW.out.below hw).op.cell 3, HCT.out w' hw, (HW.out.below hw).sd.doc.blk.cell 1⟩)
        have HDR : Hid (∀ w', Below wr.heap.size wr w' → Calls Tryz.prog 15 #[.slice pA kn pc, .int .i64 y] w' fun e w1 => ∃ A' c', e = .returned (.slice A' (dropL y dl).length c') ∧ w1.ownsRow w'.heap.size 3 1 (.slice A' (dropL y dl).length c') (dropL y dl).length ((dropL y dl).map (Value.int .i64)) ∧ Below w'.heap.size w' w1) := Lib.hid (fun w' hb => by
          have hr := (HW.out.below hb).sd.doc.used
          simp only [← HKN.out] at hr
          refine rdrop_any y pA pc kn dl w' HKN.out.symm (row_intsV HKN.out hr) ?_
          have h1 : dl.length ≤ s.used.length := by rw [HDL.out]; exact dropT_len _ _ _
          have := HLU.out
          have := HNN.out
          omega)
        clear hy y2 yl hc hdl hkn hyy o3
        have o3 : wr.cell? ⟨bo, 3, none⟩ = some (.slice (some ⟨pb, po, none⟩) ln lc) := (HC.out wr (Below.refl _ _)).2.1
        go_upto_region 62 with fail
        refine wp_region_fresh (W := wr) 303 13 315 1 (fun | 0 => .pointer (some ⟨x, 0, none⟩) | 1 => .pointer (some ⟨x, 0, none⟩) | 2 => .pointer (some ⟨x, 0, none⟩) | 3 => .pointer (some ⟨x, 2, none⟩) | 4 => .slice pA kn pc | 5 => .pointer (some ⟨bo, 3, none⟩) | 6 => .slice (some ⟨pb, po, none⟩) ln lc | 7 => .int .i64 (t : Int) | 8 => .pointer (some ⟨pb, po + t, none⟩) | 9 => .int .i64 y | 11 => .pointer (some ⟨x, 0, none⟩) | 12 => .pointer (some ⟨x, 2, none⟩) | _ => undef) (fun | 10 => some ⟨3, 1, (dropL y dl).length, (dropL y dl).map (Value.int .i64)⟩ | _ => none) (by kernel_rfl) (by kernel_rfl) rfl (by omega) (by kernel_rfl) rfl (Nat.le_of_ble_eq_true (by kernel_rfl)) ?hval ?hrow ?hrest
        case hval =>
          intro i hi hr z w' hB hF hv
          rcases (show i = 0 ∨ i = 1 ∨ i = 2 ∨ i = 3 ∨ i = 4 ∨ i = 5 ∨ i = 6 ∨ i = 7 ∨ i = 8 ∨ i = 9 ∨ i = 10 ∨ i = 11 ∨ i = 12 by omega) with rfl | rfl | rfl | rfl | rfl | rfl | rfl | rfl | rfl | rfl | rfl | rfl | rfl
          · have t0 : z.tmps[10]?.getD undef = .pointer (some ⟨x, 0, none⟩) := (congrArg (fun z => z.getD undef) (hF.2.2 10 (by omega))).trans (by kernel_rfl)
            clear hv hF
            refine wpOp_value (v := .pointer (some ⟨x, 0, none⟩)) (w' := w') rfl rfl ?_ ⟨rfl, rfl⟩
            go_simp
          · have t0 : z.tmps[10]?.getD undef = .pointer (some ⟨x, 0, none⟩) := (congrArg (fun z => z.getD undef) (hF.2.2 10 (by omega))).trans (by kernel_rfl)
            clear hv hF
            refine wpOp_value (v := .pointer (some ⟨x, 0, none⟩)) (w' := w') rfl rfl ?_ ⟨rfl, rfl⟩
            go_simp
          · have t0 : z.tmps[304]?.getD undef = .pointer (some ⟨x, 0, none⟩) := hv 1 (of_decide_eq_true (by kernel_rfl)) (by omega) rfl
            clear hv hF
            refine wpOp_value (v := .pointer (some ⟨x, 0, none⟩)) (w' := w') rfl rfl ?_ ⟨rfl, rfl⟩
            go_simp
          · have t0 : z.tmps[305]?.getD undef = .pointer (some ⟨x, 0, none⟩) := hv 2 (of_decide_eq_true (by kernel_rfl)) (by omega) rfl
            clear hv hF
            refine wpOp_value (v := .pointer (some ⟨x, 2, none⟩)) (w' := w') rfl rfl ?_ ⟨rfl, rfl⟩
            go_simp
          · have t0 : z.tmps[306]?.getD undef = .pointer (some ⟨x, 2, none⟩) := hv 3 (of_decide_eq_true (by kernel_rfl)) (by omega) rfl
            obtain ⟨z0, -, -, -⟩ := HC.out w' hB
            clear hv hF
            refine wpOp_value (v := .slice pA kn pc) (w' := w') rfl rfl ?_ ⟨rfl, rfl⟩
            go_simp
          · have t0 : z.tmps[15]?.getD undef = .pointer (some ⟨bo, 0, none⟩) := (congrArg (fun z => z.getD undef) (hF.2.2 15 (by omega))).trans (by kernel_rfl)
            clear hv hF
            refine wpOp_value (v := .pointer (some ⟨bo, 3, none⟩)) (w' := w') rfl rfl ?_ ⟨rfl, rfl⟩
            go_simp
          · have t0 : z.tmps[308]?.getD undef = .pointer (some ⟨bo, 3, none⟩) := hv 5 (of_decide_eq_true (by kernel_rfl)) (by omega) rfl
            obtain ⟨-, z0, -, -⟩ := HC.out w' hB
            clear hv hF
            refine wpOp_value (v := .slice (some ⟨pb, po, none⟩) ln lc) (w' := w') rfl rfl ?_ ⟨rfl, rfl⟩
            go_simp
          · have t0 : z.tmps[23]?.getD undef = .int .i64 (t : Int) := (congrArg (fun z => z.getD undef) (hF.2.2 23 (by omega))).trans (by kernel_rfl)
            clear hv hF
            refine wpOp_value (v := .int .i64 (t : Int)) (w' := w') rfl rfl ?_ ⟨rfl, rfl⟩
            go_simp
          · have t0 : z.tmps[309]?.getD undef = .slice (some ⟨pb, po, none⟩) ln lc := hv 6 (of_decide_eq_true (by kernel_rfl)) (by omega) rfl
            have t1 : z.tmps[310]?.getD undef = .int .i64 (t : Int) := hv 7 (of_decide_eq_true (by kernel_rfl)) (by omega) rfl
            have ht1 := hlt
            clear hv hF
            refine wpOp_value (v := .pointer (some ⟨pb, po + t, none⟩)) (w' := w') rfl rfl ?_ ⟨rfl, rfl⟩
            go_simp
          · have t0 : z.tmps[311]?.getD undef = .pointer (some ⟨pb, po + t, none⟩) := hv 8 (of_decide_eq_true (by kernel_rfl)) (by omega) rfl
            obtain ⟨-, -, z0, -⟩ := HC.out w' hB
            clear hv hF
            refine wpOp_value (v := .int .i64 y) (w' := w') rfl rfl ?_ ⟨rfl, rfl⟩
            go_simp
          · cases hr
          · have t0 : z.tmps[303]?.getD undef = .pointer (some ⟨x, 0, none⟩) := hv 0 (of_decide_eq_true (by kernel_rfl)) (by omega) rfl
            clear hv hF
            refine wpOp_value (v := .pointer (some ⟨x, 0, none⟩)) (w' := w') rfl rfl ?_ ⟨rfl, rfl⟩
            go_simp
          · have t0 : z.tmps[314]?.getD undef = .pointer (some ⟨x, 0, none⟩) := hv 11 (of_decide_eq_true (by kernel_rfl)) (by omega) rfl
            clear hv hF
            refine wpOp_value (v := .pointer (some ⟨x, 2, none⟩)) (w' := w') rfl rfl ?_ ⟨rfl, rfl⟩
            go_simp
        case hrow =>
          intro i r hi hr z w' hB hF hv
          rcases (show i = 0 ∨ i = 1 ∨ i = 2 ∨ i = 3 ∨ i = 4 ∨ i = 5 ∨ i = 6 ∨ i = 7 ∨ i = 8 ∨ i = 9 ∨ i = 10 ∨ i = 11 ∨ i = 12 by omega) with rfl | rfl | rfl | rfl | rfl | rfl | rfl | rfl | rfl | rfl | rfl | rfl | rfl
          · cases hr
          · cases hr
          · cases hr
          · cases hr
          · cases hr
          · cases hr
          · cases hr
          · cases hr
          · cases hr
          · cases hr
          · injection hr with hr
            subst hr
            have t0 : z.tmps[307]?.getD undef = .slice pA kn pc := hv 4 (of_decide_eq_true (by kernel_rfl)) (by omega) rfl
            have t1 : z.tmps[312]?.getD undef = .int .i64 y := hv 9 (of_decide_eq_true (by kernel_rfl)) (by omega) rfl
            clear hv hF
            refine wpOp_call (f := 15) (args := #[.slice pA kn pc, .int .i64 y]) rfl rfl (by go_simp) ((HDR.out w' hB).mono ?_)
            rintro e1 w'' ⟨A1, c1, rfl, hr1, hb1⟩
            exact ⟨_, rfl, _, rfl, hr1, hb1⟩
          · cases hr
          · cases hr
        case hrest =>
          intro L f w' hL hJ
          obtain ⟨hB, hV, hR, -⟩ := hJ
          have r10 := hR 10 _ (by omega) (hL 10 (by omega)) rfl
          have e12 := hV 12 (by omega) (hL 12 (by omega)) rfl
          simp only at r10 e12
          obtain ⟨q1, d1, e10, -⟩ := row_slice' r10
          rw [e10] at r10
          have x2c : w'.cell? ⟨x, 2, none⟩ = some (.slice pA kn pc) := (HC.out w' hB).1
          have x2f : w'.frozen? ⟨x, 2, none⟩ = false := (HW.out.below hB).sd.doc.blk.frozen 2
          obtain ⟨Q5, hs5⟩ := HW.out.used (v' := .slice q1 (dropL y dl).length d1) (l := dropL y dl) hB HW.out.big (.inr r10)
          have HS5 := Lib.hid hs5
          clear hL hB hV hR r10 hs5
          refine wpOps_storedS (a := 12) (b := 10) rfl (Nat.le_of_ble_eq_true (by kernel_rfl)) (by omega) (by omega) e12 e10 x2c x2f ?_
          clear e12 e10 x2c x2f
          obtain ⟨w5, hw5⟩ : ∃ w5, w5 = w'.setCell ⟨x, 2, none⟩ (.slice q1 (dropL y dl).length d1) := ⟨_, rfl⟩
          rw [← hw5] at HS5 ⊢
          clear hw5
          simp only [putAll, List.range, List.range.loop, List.foldl, Nat.reduceAdd, List.setIfInBounds_toArray, List.set_cons_succ, List.set_cons_zero]
          have HC5 : Hid (∀ w', Below w5.heap.size w5 w' → w'.cell? ⟨x, 1, none⟩ = some (.slice (some ⟨ob, 0, none⟩) n cO) ∧ w'.cell? ⟨bo, 3, none⟩ = some (.slice (some ⟨pb, po, none⟩) ln lc) ∧ w'.cell? ⟨pb, po + t, none⟩ = some (.int .i64 (yn : Int))) := Lib.hid (fun w' hw => ⟨(HS5.out.below hw).sd.doc.blk.cell 1, (HS5.out.below hw).op.cell 3, by
            obtain ⟨b1, o1, e1, e2, e3⟩ := HLS.out w' (HS5.out.below hw).at0 (by have := HLN.out; omega)
            injection e1 with e1
            injection e1 with e1 e1'
            subst e1 e1'
            exact e3 t _ HY.out⟩)
          go_upto_region 63 with fail
          refine wp_region_vals (W := w5) 316 10 325 1 (fun | 0 => .pointer (some ⟨x, 0, none⟩) | 1 => .pointer (some ⟨x, 0, none⟩) | 2 => .pointer (some ⟨x, 1, none⟩) | 3 => .slice (some ⟨ob, 0, none⟩) n cO | 4 => .pointer (some ⟨bo, 3, none⟩) | 5 => .slice (some ⟨pb, po, none⟩) ln lc | 6 => .int .i64 (t : Int) | 7 => .pointer (some ⟨pb, po + t, none⟩) | 8 => .int .i64 (yn : Int) | 9 => .pointer (some ⟨ob, yn, none⟩) | _ => undef) (by kernel_rfl) (by kernel_rfl) rfl (by omega) (by kernel_rfl) rfl (Nat.le_of_ble_eq_true (by kernel_rfl)) ?hval ?hrest
          case hval =>
            intro i hi z w' hB hF hv
            rcases (show i = 0 ∨ i = 1 ∨ i = 2 ∨ i = 3 ∨ i = 4 ∨ i = 5 ∨ i = 6 ∨ i = 7 ∨ i = 8 ∨ i = 9 by omega) with rfl | rfl | rfl | rfl | rfl | rfl | rfl | rfl | rfl | rfl
            · have t0 : z.tmps[10]?.getD undef = .pointer (some ⟨x, 0, none⟩) := (congrArg (fun z => z.getD undef) (hF.2.2 10 (by omega))).trans (by kernel_rfl)
              clear hv hF
              refine wpOp_value (v := .pointer (some ⟨x, 0, none⟩)) (w' := w') rfl rfl ?_ ⟨rfl, Below.refl _ _⟩
              go_simp
            · have t0 : z.tmps[316]?.getD undef = .pointer (some ⟨x, 0, none⟩) := hv 0 (of_decide_eq_true (by kernel_rfl)) (by omega)
              clear hv hF
              refine wpOp_value (v := .pointer (some ⟨x, 0, none⟩)) (w' := w') rfl rfl ?_ ⟨rfl, Below.refl _ _⟩
              go_simp
            · have t0 : z.tmps[317]?.getD undef = .pointer (some ⟨x, 0, none⟩) := hv 1 (of_decide_eq_true (by kernel_rfl)) (by omega)
              clear hv hF
              refine wpOp_value (v := .pointer (some ⟨x, 1, none⟩)) (w' := w') rfl rfl ?_ ⟨rfl, Below.refl _ _⟩
              go_simp
            · have t0 : z.tmps[318]?.getD undef = .pointer (some ⟨x, 1, none⟩) := hv 2 (of_decide_eq_true (by kernel_rfl)) (by omega)
              obtain ⟨z0, -, -⟩ := HC5.out w' hB
              clear hv hF
              refine wpOp_value (v := .slice (some ⟨ob, 0, none⟩) n cO) (w' := w') rfl rfl ?_ ⟨rfl, Below.refl _ _⟩
              go_simp
            · have t0 : z.tmps[15]?.getD undef = .pointer (some ⟨bo, 0, none⟩) := (congrArg (fun z => z.getD undef) (hF.2.2 15 (by omega))).trans (by kernel_rfl)
              clear hv hF
              refine wpOp_value (v := .pointer (some ⟨bo, 3, none⟩)) (w' := w') rfl rfl ?_ ⟨rfl, Below.refl _ _⟩
              go_simp
            · have t0 : z.tmps[320]?.getD undef = .pointer (some ⟨bo, 3, none⟩) := hv 4 (of_decide_eq_true (by kernel_rfl)) (by omega)
              obtain ⟨-, z0, -⟩ := HC5.out w' hB
              clear hv hF
              refine wpOp_value (v := .slice (some ⟨pb, po, none⟩) ln lc) (w' := w') rfl rfl ?_ ⟨rfl, Below.refl _ _⟩
              go_simp
            · have t0 : z.tmps[23]?.getD undef = .int .i64 (t : Int) := (congrArg (fun z => z.getD undef) (hF.2.2 23 (by omega))).trans (by kernel_rfl)
              clear hv hF
              refine wpOp_value (v := .int .i64 (t : Int)) (w' := w') rfl rfl ?_ ⟨rfl, Below.refl _ _⟩
              go_simp
            · have t0 : z.tmps[321]?.getD undef = .slice (some ⟨pb, po, none⟩) ln lc := hv 5 (of_decide_eq_true (by kernel_rfl)) (by omega)
              have t1 : z.tmps[322]?.getD undef = .int .i64 (t : Int) := hv 6 (of_decide_eq_true (by kernel_rfl)) (by omega)
              have ht1 := hlt
              clear hv hF
              refine wpOp_value (v := .pointer (some ⟨pb, po + t, none⟩)) (w' := w') rfl rfl ?_ ⟨rfl, Below.refl _ _⟩
              go_simp
            · have t0 : z.tmps[323]?.getD undef = .pointer (some ⟨pb, po + t, none⟩) := hv 7 (of_decide_eq_true (by kernel_rfl)) (by omega)
              obtain ⟨-, -, z0⟩ := HC5.out w' hB
              clear hv hF
              refine wpOp_value (v := .int .i64 (yn : Int)) (w' := w') rfl rfl ?_ ⟨rfl, Below.refl _ _⟩
              go_simp
            · have t0 : z.tmps[319]?.getD undef = .slice (some ⟨ob, 0, none⟩) n cO := hv 3 (of_decide_eq_true (by kernel_rfl)) (by omega)
              have t1 : z.tmps[324]?.getD undef = .int .i64 (yn : Int) := hv 8 (of_decide_eq_true (by kernel_rfl)) (by omega)
              have ht1 := HYN.out
              clear hv hF
              refine wpOp_value (v := .pointer (some ⟨ob, yn, none⟩)) (w' := w') rfl rfl ?_ ⟨rfl, Below.refl _ _⟩
              go_simp
          case hrest =>
            intro w6' hB
            have hst := HS5.out.below hB
            obtain ⟨z, hz⟩ : ∃ z, (wipe l s.on t)[yn]? = some z := ⟨_, List.getElem?_eq_getElem (by rw [wipe_len, HLO.out]; exact HYN.out)⟩
            have hro := hst.sd.doc.on
            simp only [wipe_len, HLO.out] at hro
            have ct : w6'.cell? ⟨ob, yn, none⟩ = some (.string z) := krow_cell hro (by show ((wipe l s.on t).map Value.string)[yn]? = _; rw [List.getElem?_map, hz]; rfl)
            have ft : w6'.frozen? ⟨ob, yn, none⟩ = false := krow_frozen hro _
            have HN := Lib.hid (hst.on (by show n = (wipe l s.on t).length; rw [wipe_len, HLO.out]) yn ⟨#[]⟩)
            clear hst hro hz hB
            refine wpOps_storedC (a := 9) rfl (Nat.le_of_ble_eq_true (by kernel_rfl)) (by omega) rfl ct ft ?_
            clear ct ft
            obtain ⟨w7, hw7⟩ : ∃ w7, w7 = w6'.setCell ⟨ob, yn, none⟩ (.string ⟨#[]⟩) := ⟨_, rfl⟩
            rw [← hw7] at HN ⊢
            clear hw7
            simp only [putAll, List.range, List.range.loop, List.foldl, Nat.reduceAdd, List.setIfInBounds_toArray, List.set_cons_succ, List.set_cons_zero]
            go_wp2_with fail
            go_roundw
            case rel =>
              refine ⟨t + 1, q1, d1, Q5, by omega, by go_num, ?_⟩
              have h1 := HN.out
              have h2 : dropT s.used l (t + 1) = dropL y dl := by rw [dropT_succ HY.out, ← HDL.out, HYY.out]
              have h3 : wipe l s.on (t + 1) = (wipe l s.on t).set yn ⟨#[]⟩ := by
                show (wipe l s.on t).set (l.getD t 0).toNat .empty = _
                rw [List.getD_eq_getElem?_getD, HY.out]
                rfl
              rw [h2, h3]
              exact h1
            case measure => simp [intOf]; omega
    case rest =>
    obtain ⟨rfl, vu', s', Q', hm', hst⟩ := hcut
    obtain ⟨w7, rfl⟩ : ∃ w7, w7 = wc := ⟨_, rfl⟩
    have HM' := Lib.hid hm'
    have HS7 := Lib.hid hst
    clear hm' hst HS HE
    have o3 : w7.cell? ⟨bo, 3, none⟩ = some (.slice la ln lc) := HS7.out.op.cell 3
    have HLE := Lib.hid (klent_any la ln lc l w7 HLN.out.symm ((HLS.out w7 HS7.out.at0).more HS7.out.at0.size) (by have := HLL.out.1; omega) (fun e => (HLL.out.2 e).2))
    obtain ⟨de, hde⟩ : ∃ de, de = dropE K l := ⟨_, rfl⟩
    rw [← hde]
    go_wp2_with fail
    refine HLE.out.mono ?_
    rintro e' w8 ⟨gl, cap, rfl, hL, hb8⟩
    have HDR := Lib.hid (gmk_drop (HS7.out.lent hb8 hL.1 hL.2.1).1 HGO.out (some ⟨gl, 0, none⟩) ln cap l HLN.out.symm hL.ints (by have := HLL.out.1; omega))
    rw [← hde] at HDR
    have HL := Lib.hid hL
    have HB8 := Lib.hid hb8
    have hself : (de == de) = true := by simp
    clear hL hb8 HLE o3 hde
    go_wp2_with fail
    refine HDR.out.mono ?_
    rintro e' w9 ⟨rfl, ht9⟩
    obtain ⟨hst9, hk9, hz9⟩ := HS7.out.turnL HB8.out HL.out.1 HL.out.2.1 ht9
    rw [show K.syncs = (dropK K l).syncs by unfold dropK; split <;> rfl] at hst9
    have HS9 := Lib.hid hst9
    have HL9 := Lib.hid (HL.out.same hk9 hz9)
    have o3 : w9.cell? ⟨bo, 3, none⟩ = some (.slice la ln lc) := hst9.op.cell 3
    have HSY := Lib.hid (kstays_any gl cap la ln lc l _ w9 HLN.out.symm HL9.out ((HLS.out w9 hst9.at0).more hst9.at0.size) (by have := HLL.out.1; omega))
    clear ht9 hst9 hk9 hz9 HDR
    go_wp2_with fail
    refine HSY.out.mono ?_
    rintro e' wz ⟨rfl, kz, rfl⟩
    have HP := Lib.hid ((HS9.out.below (below_dn _ kz)).fin (cc := 3 + 2 * (j + 1)) (by have := HMC.out; omega) (HGO.out.drop l) (by omega) HM'.out)
    clear o3 HSY
    go_wp2_with fail
    refine Met.intro (hJ _ _ ⟨_, _, _, HP.out, frame11_ex (by kernel_rfl) (by kernel_rfl) (by kernel_rfl) (by kernel_rfl) (by kernel_rfl) (by kernel_rfl) (by kernel_rfl) (by kernel_rfl) (by kernel_rfl) (by kernel_rfl)⟩)
  by_cases k4 : kd = 4
  · subst k4
    have hnN := HNN.out.1.symm
    have o3 : w2.cell? ⟨bo, 3, none⟩ = some (.slice la ln lc) := HST.out.op.cell 3
    have HT0 := Lib.hid (own_two w2)
    have HB0 : Hid (Below w2.heap.size w2 (w2.alloc (.cells #[.int .i64 0, .int .i64 1] 3))) := Lib.hid ((Below.refl _ _).alloc (Nat.le_refl _) _)
    go_upto_block 13 with fail
    obtain ⟨w3, hw3⟩ : ∃ w3, w3 = w2.alloc (.cells #[.int .i64 0, .int .i64 1] 3) := ⟨_, rfl⟩
    rw [← hw3] at HT0 HB0 ⊢
    clear hw3 o3
    go_cut [25, 26] from 344 to 372 (fun v k wx => ∃ (e : Int) (pA : Option Addr) (pc : Nat), v = .int .i64 e ∧ k = .slice pA (putF l).length pc ∧ ((e = 0 ∧ ¬ rangeBad n l) ∨ (e = 15 ∧ rangeBad n l)) ∧ Below w2.heap.size w2 wx ∧ wx.ownsRow w2.heap.size 3 1 (.slice pA (putF l).length pc) (putF l).length (intV (putF l)))
    case first =>
      as_aux_lemma =>
      refine id ?_
      go_wp2_with fail
      go_loopw [25, 26, 27] (fun v k i wr => ∃ (e : Int) (t : Nat) (pA : Option Addr) (pc : Nat), t ≤ ln ∧ v = .int .i64 e ∧ i = .int .i64 (t : Int) ∧ k = .slice pA (putT l t).length pc ∧ ((e = 0 ∧ ¬ rangeBad n (l.take t)) ∨ (e = 15 ∧ rangeBad n (l.take t))) ∧ Below w2.heap.size w2 wr ∧ wr.ownsRow w2.heap.size 3 1 (.slice pA (putT l t).length pc) (putT l t).length (intV (putT l t))) (fun _ _ i _ => ln - (intOf i).toNat)
      case atStart => exact ⟨0, 0, some ⟨w2.heap.size, 0, none⟩, 2, Nat.zero_le _, rfl, rfl, rfl, .inl ⟨rfl, fun ⟨z, hz, _⟩ => by simp at hz⟩, HB0.out, HT0.out⟩
      case round =>
        obtain ⟨e, t, pA, pc, ht, rfl, rfl, rfl, he, hbr, hrow⟩ := hrel
        have HE := Lib.hid he
        have HBR := Lib.hid hbr
        have HROW := Lib.hid hrow
        have o3 : wr.cell? ⟨bo, 3, none⟩ = some (.slice la ln lc) := (HST.out.below hbr).op.cell 3
        have hln := HLL.out.1
        clear he hbr hrow
        by_cases hlt : t < ln
        rotate_left
        · obtain rfl : t = ln := by omega
          go_wp2_with fail
          go_meet
          have h1 := HROW.out
          have h2 := HE.out
          rw [HLN.out] at h1 h2 ⊢
          rw [putT_all] at h1 ⊢
          rw [List.take_length] at h2
          exact ⟨e, pA, pc, rfl, rfl, h2, HBR.out, h1⟩
        have htI : (t : Int) < (ln : Int) := by omega
        obtain ⟨y, hy⟩ : ∃ y, l[t]? = some y := ⟨_, List.getElem?_eq_getElem (by rw [← HLN.out]; exact hlt)⟩
        obtain ⟨pb, po, hA, hbB, hc⟩ := HLS.out wr (HST.out.below HBR.out).at0 (by have := HLN.out; omega)
        have ot : wr.cell? ⟨pb, po + t, none⟩ = some (.int .i64 y) := hc t y hy
        have HY := Lib.hid hy
        have HRB := Lib.hid (rangeBad_take (n := n) hy)
        have HPU := Lib.hid (rput_more y pA pc (putT l t).length (putT l t) w2.heap.size wr rfl HROW.out (by have h1 := putT_len l t (by rw [← HLN.out]; omega); omega))
        have HROW5 : Hid (∀ (w5 : World) (A' : Option Addr) (c' : Nat), ((A' = pA ∧ c' = pc ∧ putL y (putT l t) = putT l t) ∨ w5.ownsRow wr.heap.size 3 1 (.slice A' (putL y (putT l t)).length c') (putL y (putT l t)).length ((putL y (putT l t)).map (Value.int .i64))) → Below wr.heap.size wr w5 → w5.ownsRow w2.heap.size 3 1 (.slice A' (putT l (t + 1)).length c') (putT l (t + 1)).length (intV (putT l (t + 1)))) := Lib.hid (fun w5 A' c' hwp hbp => by
          rw [putT_succ HY.out]
          rcases hwp with ⟨rfl, rfl, e⟩ | hwp
          · rw [e]
            exact row_below HROW.out hbp
          · exact row_lower hwp HBR.out.size)
        subst hA
        clear hc hy
        by_cases hy0 : y < 0
        ·
          go_wp2_with fail
          refine HPU.out.mono ?_
          rintro e' w5 ⟨A', c', rfl, hwp, hbp⟩
          have HR5 := Lib.hid (HROW5.out w5 A' c' hwp hbp)
          have HB5' := Lib.hid (HBR.out.trans (hbp.mono HBR.out.size))
          clear hwp hbp
          rw [← putT_succ HY.out]
          go_wp2_with fail
          go_roundw
          case rel => exact ⟨15, t + 1, A', c', by omega, rfl, by go_num, rfl, .inr ⟨rfl, HRB.out.2 (.inr (.inl hy0))⟩, HB5'.out, HR5.out⟩
          case measure => simp [intOf]; omega
        by_cases hyn : (n : Int) ≤ y
        ·
          go_wp2_with fail
          refine HPU.out.mono ?_
          rintro e' w5 ⟨A', c', rfl, hwp, hbp⟩
          have HR5 := Lib.hid (HROW5.out w5 A' c' hwp hbp)
          have HB5' := Lib.hid (HBR.out.trans (hbp.mono HBR.out.size))
          clear hwp hbp
          rw [← putT_succ HY.out]
          go_wp2_with fail
          go_roundw
          case rel => exact ⟨15, t + 1, A', c', by omega, rfl, by go_num, rfl, .inr ⟨rfl, HRB.out.2 (.inr (.inr hyn))⟩, HB5'.out, HR5.out⟩
          case measure => simp [intOf]; omega
        have HNB : Hid (¬ (y < 0 ∨ (n : Int) ≤ y)) := Lib.hid (by omega)
        go_wp2_with fail
        refine HPU.out.mono ?_
        rintro e' w5 ⟨A', c', rfl, hwp, hbp⟩
        have HR5 := Lib.hid (HROW5.out w5 A' c' hwp hbp)
        have HB5' := Lib.hid (HBR.out.trans (hbp.mono HBR.out.size))
        clear hwp hbp
        rw [← putT_succ HY.out]
        go_wp2_with fail
        go_roundw
        case rel => exact ⟨e, t + 1, A', c', by omega, rfl, by go_num, rfl, by
          rcases HE.out with ⟨e1, e2⟩ | ⟨e1, e2⟩
          · exact .inl ⟨e1, fun z => (HRB.out.1 z).elim e2 HNB.out⟩
          · exact .inr ⟨e1, HRB.out.2 (.inl e2)⟩, HB5'.out, HR5.out⟩
        case measure => simp [intOf]; omega
    case rest =>
    obtain ⟨e, pA, pc, rfl, rfl, he, hbm, hrow⟩ := hcut
    obtain ⟨w6, rfl⟩ : ∃ w6, w6 = wc := ⟨_, rfl⟩
    have HE := Lib.hid he
    have HBM := Lib.hid hbm
    have HROW := Lib.hid hrow
    clear he hbm hrow HT0 HB0
    go_upto_if 374 with fail
    go_cut [25] from 375 to 393 (fun v wx => v = .int .i64 (stayE K l) ∧ ∃ vu' s' Q', Mat N (stayK K l) h Hc s' ∧ St w wx g gd m N K w4.heap.size bm bo #[.int .i64 4, .int .i64 a, .string S, .slice la ln lc] h Hc K.syncs x vh (.slice (some ⟨ob, 0, none⟩) n cO) vu' (.slice (some ⟨wb, 0, none⟩) nw cW) s' Q' Ms v13)
    case first =>
      as_aux_lemma =>
      refine id ?_
      rcases HE.out with ⟨rfl, hok⟩ | ⟨rfl, hok⟩
      rotate_left
      · have hno := HMAT.out.keep_no HGO.out (l := l) (by rw [hnN]; exact hok)
        have HNO1 := Lib.hid hno.1
        have HNO2 := Lib.hid hno.2
        clear hno hok
        go_wp2_with fail
        go_meet
        exact ⟨by rw [HNO1.out], _, s, Q, by rw [HNO2.out]; exact HMAT.out, HST.out.below HBM.out⟩
      have HKY := Lib.hid (HMAT.out.keep_yes HGO.out (l := l) (by rw [hnN]; exact hok) (s' := { s with on := sift (putF l) s.on s.on.length, used := putF l }) ⟨rfl, rfl, rfl, sift_len _ _ _⟩ (fun t ht => sift_all (putF l) s.on t (by rw [HLO.out, ← hnN]; exact ht)))
      have HPL : Hid ((putF l).length ≤ 6002) := Lib.hid (by
        have h1 := putT_len l l.length (Nat.le_refl _)
        rw [putT_all] at h1
        have h2 := HLL.out.1
        have h3 := HLN.out
        omega)
      obtain ⟨Q7, hs7⟩ := HST.out.used (v' := .slice pA (putF l).length pc) (l := putF l) HBM.out HST.out.big (.inr HROW.out)
      have HS7 := Lib.hid hs7
      have x2c : w6.cell? ⟨x, 2, none⟩ = some (.slice (some ⟨ub, 0, none⟩) nu cU) := (HST.out.below HBM.out).sd.doc.blk.cell 2
      have x2f : w6.frozen? ⟨x, 2, none⟩ = false := (HST.out.below HBM.out).sd.doc.blk.frozen 2
      clear hok hs7
      go_upto_block 15 with fail
      obtain ⟨w7, hw7⟩ : ∃ w7, w7 = w6.setCell ⟨x, 2, none⟩ (.slice pA (putF l).length pc) := ⟨_, rfl⟩
      rw [← hw7] at HS7 ⊢
      clear hw7 x2c x2f
      go_wp2_with fail
      go_loopw [28] (fun i wr => ∃ t : Nat, t ≤ n ∧ i = .int .i64 (t : Int) ∧ St w wr g gd m N K w4.heap.size bm bo #[.int .i64 4, .int .i64 a, .string S, .slice la ln lc] h Hc K.syncs x vh (.slice (some ⟨ob, 0, none⟩) n cO) (.slice pA (putF l).length pc) (.slice (some ⟨wb, 0, none⟩) nw cW) { s with on := sift (putF l) s.on t, used := putF l } Q7 Ms v13) (fun i _ => n - (intOf i).toNat)
      case atStart => exact ⟨0, Nat.zero_le _, rfl, HS7.out⟩
      case round =>
        obtain ⟨t, ht, rfl, hst⟩ := hrel
        have hbl : (sift (putF l) s.on t).length = n := by rw [sift_len]; exact HLO.out
        have x1c : wr.cell? ⟨x, 1, none⟩ = some (.slice (some ⟨ob, 0, none⟩) n cO) := hst.sd.doc.blk.cell 1
        by_cases hlt : t < n
        rotate_left
        · obtain rfl : t = n := by omega
          have HSN := Lib.hid hst
          clear hst hbl x1c
          go_wp2_with fail
          go_meet
          refine ⟨by rw [HKY.out.1], .slice pA (putF l).length pc, _, Q7, HKY.out.2, ?_⟩
          have h1 := HSN.out
          rw [HLO.out]
          exact h1
        have htI : (t : Int) < (n : Int) := by omega
        have HAM := Lib.hid (ramong_any (t : Int) pA pc (putF l).length (putF l) wr rfl (row_intsV rfl hst.sd.doc.used) (by have := HPL.out; omega))
        by_cases hm : (t : Int) ∈ putF l
        · rw [decide_eq_true hm] at HAM
          have HN := Lib.hid hst
          rw [← sift_yes hm] at HN
          clear hst hbl hm
          go_wp2_with fail
          refine HAM.out.mono ?_
          rintro e' wz ⟨rfl, hwz⟩
          subst hwz
          go_wp2_with fail
          go_roundw
          case rel => exact ⟨t + 1, by omega, by go_num, HN.out⟩
          case measure => simp [intOf]; omega
        · rw [decide_eq_false hm] at HAM
          obtain ⟨z, hz⟩ : ∃ z, (sift (putF l) s.on t)[t]? = some z := ⟨_, List.getElem?_eq_getElem (by rw [hbl]; exact hlt)⟩
          have hro := hst.sd.doc.on
          simp only [hbl] at hro
          have ct : wr.cell? ⟨ob, t, none⟩ = some (.string z) := krow_cell hro (by show ((sift (putF l) s.on t).map Value.string)[t]? = _; rw [List.getElem?_map, hz]; rfl)
          have ft : wr.frozen? ⟨ob, t, none⟩ = false := krow_frozen hro _
          have HN := Lib.hid (hst.on hbl.symm t ⟨#[]⟩)
          have HSF : Hid (sift (putF l) s.on (t + 1) = (sift (putF l) s.on t).set t ⟨#[]⟩) := Lib.hid (sift_no hm)
          clear hst hbl hm hro hz
          go_wp2_with fail
          refine HAM.out.mono ?_
          rintro e' wz ⟨rfl, hwz⟩
          subst hwz
          go_wp2_with fail
          go_roundw
          case rel =>
            refine ⟨t + 1, by omega, by go_num, ?_⟩
            rw [HSF.out]
            exact HN.out
          case measure => simp [intOf]; omega
    case rest =>
    obtain ⟨rfl, vu', s', Q', hm', hst⟩ := hcut
    obtain ⟨w8, rfl⟩ : ∃ w8, w8 = wc := ⟨_, rfl⟩
    have HM' := Lib.hid hm'
    have HS8 := Lib.hid hst
    clear hm' hst HE HBM HROW
    have o3 : w8.cell? ⟨bo, 3, none⟩ = some (.slice la ln lc) := HS8.out.op.cell 3
    obtain ⟨de, hde⟩ : ∃ de, de = stayE K l := ⟨_, rfl⟩
    have HKP := Lib.hid (gmk_keep HS8.out.dq.1 HGO.out la ln lc l HLN.out.symm ((HLS.out w8 HS8.out.at0).more HS8.out.at0.size) (by have := HLL.out.1; omega) (fun e => (HLL.out.2 e).2))
    rw [← hde] at HKP ⊢
    have hself : (de == de) = true := by simp
    clear hde
    go_wp2_with fail
    refine HKP.out.mono ?_
    rintro e' w9 ⟨rfl, ht9⟩
    have hst9 := HS8.out.turn ht9
    rw [show K.syncs = (stayK K l).syncs by unfold stayK; split <;> rfl] at hst9
    have HP := Lib.hid (hst9.fin (cc := 3 + 2 * (j + 1)) (by have := HMC.out; omega) (HGO.out.stay l) (by omega) HM'.out)
    clear ht9 hst9 o3
    go_wp2_with fail
    refine Met.intro (hJ _ _ ⟨_, _, _, HP.out, frame11_ex (by kernel_rfl) (by kernel_rfl) (by kernel_rfl) (by kernel_rfl) (by kernel_rfl) (by kernel_rfl) (by kernel_rfl) (by kernel_rfl) (by kernel_rfl) (by kernel_rfl)⟩)
  by_cases k5 : kd = 5
  · subst k5
    have HMK := Lib.hid (gmk_mark HST.out.dq.1 HGO.out)
    have HLE := Lib.hid (HMAT.out.lens HGO.out)
    go_wp2_with fail
    refine HMK.out.mono ?_
    rintro e w3 ⟨st, rfl, ht, hb3⟩
    have HS3 := Lib.hid (HST.out.sd.move (fun b hb => (DQ.of_mark ht HST.out.dq.2).2 b (List.mem_cons_of_mem _ hb)))
    have HT := Lib.hid ht
    have HBW3 : Hid (w4.heap.size ≤ w3.heap.size) := Lib.hid (Nat.le_trans HST.out.big hb3.size)
    have HCP := Lib.hid (dcopy_any ⟨_, _, _, _, HS3.out.doc⟩ (by have := HLE.out; have := HNN.out; omega))
    clear ht hb3 HMK
    go_wp2_with fail
    refine HCP.out.mono ?_
    rintro e w5 ⟨y, rfl, ⟨yh, yo, yu, yw, hy⟩, hb5⟩
    have HP := Lib.hid (HST.out.mark HT.out HBW3.out hy hb5 (by have := HMC.out; omega : m ≤ 3 + 2 * (j + 1)) HGO.out (by omega) HMAT.out)
    obtain ⟨p, hp⟩ := HS3.out.cell
    have hp5 := hp.below hb5 hp.lt
    have hc5 : w5.cell? ⟨bm, 0, none⟩ = some (.pointer p) := hp5.cell 0
    have hf5 : w5.frozen? ⟨bm, 0, none⟩ = false := hp5.frozen 0
    clear hy hb5 hp hp5 HCP
    go_wp2_with fail
    refine Met.intro (hJ _ _ ⟨_, _, _, HP.out, frame11_ex (by kernel_rfl) (by kernel_rfl) (by kernel_rfl) (by kernel_rfl) (by kernel_rfl) (by kernel_rfl) (by kernel_rfl) (by kernel_rfl) (by kernel_rfl) (by kernel_rfl)⟩)
  by_cases k6 : kd = 6
  · subst k6
    rcases HST.out.md with ⟨hv, hM⟩ | ⟨y, yh, yo, yu, yw, sm, st, F, H, hv, hy, hyQ, hM, hsy, hmf, hbk⟩
    · subst hv
      have HP := Lib.hid (HST.out.fin (by have := HMC.out; omega : m ≤ 3 + 2 * (j + 1)) HGO.out (by omega) HMAT.out)
      go_wp2_with fail
      refine Met.intro (hJ _ _ ⟨_, _, _, HP.out, frame11_ex (by kernel_rfl) (by kernel_rfl) (by kernel_rfl) (by kernel_rfl) (by kernel_rfl) (by kernel_rfl) (by kernel_rfl) (by kernel_rfl) (by kernel_rfl) (by kernel_rfl)⟩)
    · subst hv hM
      have HBA := Lib.hid (gmk_back (st := st) (F := F) (H := H) HST.out.dq.1 HGO.out (List.mem_append_right _ (by simp)) rfl)
      have c0 : w2.cell? ⟨bm, 0, none⟩ = some (.pointer (some ⟨st, 0, none⟩)) := hbk.cell 0
      have HY := Lib.hid hy
      have HYQ := Lib.hid hyQ
      have HSY := Lib.hid hsy
      have HMF := Lib.hid hmf
      clear hy hyQ hsy hmf hbk
      go_wp2_with fail
      refine HBA.out.mono ?_
      rintro e w3 ⟨rfl, ht⟩
      have HT3 := Lib.hid (HST.out.turn ht)
      have hy3 := HY.out.kept (fun b hb => (DQ.of ht HST.out.dq.2).2 b (List.mem_cons_of_mem _ (HYQ.out b hb).1))
      have HCP := Lib.hid (dcopy_any ⟨_, _, _, _, hy3⟩ (by
        have h1 := HMF.out
        have h2 := HSY.out.hok.few
        have h3 := HGO.out.cok.few
        have h4 := HGO.out.hlen
        have h5 := HNN.out
        rw [h1.home, h1.ol, h1.used, h1.was]
        omega))
      clear ht hy3 c0 HBA
      go_wp2_with fail
      refine HCP.out.mono ?_
      rintro e w5 ⟨z, rfl, ⟨zh, zo, zu, zw, hz⟩, hb5⟩
      have HP := Lib.hid (HT3.out.back HT3.out.big hz hb5 (by have := HMC.out; omega : m ≤ 3 + 2 * (j + 1)) HGO.out (by omega) HSY.out HMF.out)
      clear hz hb5 HCP
      go_wp2_with fail
      refine Met.intro (hJ _ _ ⟨_, _, _, HP.out, frame11_ex (by kernel_rfl) (by kernel_rfl) (by kernel_rfl) (by kernel_rfl) (by kernel_rfl) (by kernel_rfl) (by kernel_rfl) (by kernel_rfl) (by kernel_rfl) (by kernel_rfl)⟩)
  by_cases k7 : kd = 7
  · subst k7
    have hcc : 3 + 2 * j ≤ 1000 := by have := HJ60.out; omega
    have hmm : m < 1000000 := by have := HMC.out; have := HJ60.out; omega
    have hnN := HNN.out.1.symm
    have hsy := gmk_sync HST.out.dq.1 HGO.out hcc hmm
    have HLN1 : Hid (s.home.length ≤ 100000 ∧ s.on.length ≤ 100000 ∧ s.used.length ≤ 100000 ∧ s.was.length ≤ 100000) := Lib.hid (by
      have h1 := HLU.out
      have h2 := HLW.out
      have h3 := HNN.out
      rw [HLH.out, HLO.out, ← h1.1, ← h2.1]
      omega)
    have HHK : Hid (HOk n s.used) := Lib.hid (by have h1 := HGO.out.hok; rw [hnN] at h1; rw [HMAT.out.used]; exact h1)
    cases HGO.out.sync hcc with
    | large e k lg =>
      rw [e, k] at hsy
      have HSY := Lib.hid hsy
      obtain ⟨L, hL⟩ : ∃ L, L = (pendD s).length := ⟨_, rfl⟩
      have hLI : decide ((L : Int) ≤ 110) = false := decide_eq_false (by rw [hL, ← HMAT.out.pend HGO.out]; omega)
      have HL := Lib.hid hL
      clear hsy e k lg hL hcc hmm
      go_wp2_with fail
      refine HSY.out.mono ?_
      rintro e w3 ⟨rfl, ht3⟩
      have HT3 := Lib.hid (HST.out.turn ht3)
      have hdi := ddirty11_any ⟨_, _, _, _, HT3.out.sd.doc⟩ ⟨HLN1.out.2.1, HLN1.out.2.2.1, HLN1.out.2.2.2⟩
      rw [← HL.out] at hdi
      have HDI := Lib.hid hdi
      clear ht3 hdi HSY
      go_wp2_with fail
      refine HDI.out.mono ?_
      rintro e w5 ⟨pA, pc, rfl, -, hb5⟩
      have HP := Lib.hid ((HT3.out.below hb5).fin (by have := HMC.out; omega : m ≤ 3 + 2 * (j + 1)) HGO.out (by omega) HMAT.out)
      clear hb5 HDI
      go_wp2_with fail
      refine Met.intro (hJ _ _ ⟨_, _, _, HP.out, frame11_ex (by kernel_rfl) (by kernel_rfl) (by kernel_rfl) (by kernel_rfl) (by kernel_rfl) (by kernel_rfl) (by kernel_rfl) (by kernel_rfl) (by kernel_rfl) (by kernel_rfl)⟩)
    | done e r hH hF =>
      rw [e] at hsy
      have HSY := Lib.hid hsy
      have HR := Lib.hid r
      have HMS := Lib.hid (HMAT.out.sync HGO.out hF hH)
      clear hsy e r hH hF hcc hmm
      go_wp2_with fail
      refine HSY.out.mono ?_
      rintro e w3 ⟨rfl, ht3⟩
      have HT3 := Lib.hid (HST.out.turn ht3)
      have HDS := Lib.hid (dsync11_any (n := n) ⟨_, _, _, _, HT3.out.sd.doc⟩ HLH.out HLO.out (by have := HNN.out; omega) HHK.out HLN1.out.2.2.1 HLN1.out.2.2.2)
      clear ht3 HSY
      go_wp2_with fail
      refine HDS.out.mono ?_
      rintro e w5 ⟨y, rfl, ⟨yh, yo, yu, yw, hy⟩, hb5⟩
      obtain ⟨Q', hs5⟩ := HT3.out.redoc (h' := setI h (pendL K)) (Hc' := K.H) (sy' := (syncK K).syncs) hy hb5
      have HP := Lib.hid (hs5.fin (by have := HMC.out; omega : m ≤ 3 + 2 * (j + 1)) HR.out (by omega) HMS.out)
      clear hy hb5 hs5 HDS
      go_wp2_with fail
      refine Met.intro (hJ _ _ ⟨_, _, _, HP.out, frame11_ex (by kernel_rfl) (by kernel_rfl) (by kernel_rfl) (by kernel_rfl) (by kernel_rfl) (by kernel_rfl) (by kernel_rfl) (by kernel_rfl) (by kernel_rfl) (by kernel_rfl)⟩)
    | gone Y e b d lq wr1 ok =>
      rw [e] at hsy
      have HSY := Lib.hid hsy
      have HRS : Hid ((syncK K).S.restore = calm Y (syncK K).S.writes) := Lib.hid d.restored
      have HOF : Hid ((syncK K).S.on = false) := Lib.hid d.off
      have HBD : Hid ((syncK K).bad = 14) := Lib.hid b
      have HLQ := Lib.hid lq
      have HWR := Lib.hid wr1
      clear hsy e b d lq wr1 ok hcc hmm
      go_wp2_with fail
      refine HSY.out.mono ?_
      rintro e w3 ⟨rfl, ht3⟩
      have HT3 := Lib.hid (HST.out.turn ht3)
      have hon := doff_on HT3.out.off
      rw [HOF.out] at hon
      have HON := Lib.hid hon
      have hba := gmk_bad HT3.out.dq.1
      rw [HBD.out] at hba
      have HBA := Lib.hid hba
      have HDN := Lib.hid (gmk_down (e0 := 14) HT3.out.dq.1 HBD.out (by decide))
      have HRE := Lib.hid (doff_restore HT3.out.off)
      clear ht3 HSY hon hba
      go_wp2_with fail
      refine HON.out.mono ?_
      rintro e wy ⟨rfl, hwy⟩
      subst hwy
      go_wp2_with fail
      refine HBA.out.mono ?_
      rintro e wy ⟨rfl, hwy⟩
      subst hwy
      go_wp2_with fail
      refine HDN.out.mono ?_
      rintro e wy ⟨rfl, hwy⟩
      subst hwy
      go_wp2_with fail
      refine HRE.out.mono ?_
      rintro e w5 ⟨rfl, ht5⟩
      have HOPN : Hid (∃ h' Hc', ((h' = h ∧ Hc' = Hc) ∨ (h' = setI h (pendL K) ∧ Hc' = K.H)) ∧ Calls Tryz.prog 28 #[.pointer (some ⟨gd, 0, none⟩)] w5 fun e w' => ∃ g K', e = .returned (.tuple #[.pointer (some ⟨g, 0, none⟩), .int .i64 0]) ∧ DMk w w' g gd 0 N K' (heldOf wy (bo :: Q)) ∧ Go11 N K' h' Hc' (3 + 2 * (j + 1)) ∧ K'.F = (fun _ => .empty) ∧ K'.H = Hc' ∧ K'.syncs = 0 ∧ w5.heap.size ≤ g) := Lib.hid (by
        have hw1 := HWR.out
        have hq := HGO.out.seq
        have hcc : 3 + 2 * j + 1 ≤ 1000 := by have := HJ60.out; omega
        have hsec := HGO.out.sector.trans HGO.out.roomS
        cases HLQ.out with
        | old k => exact ⟨h, Hc, .inl ⟨rfl, rfl⟩, doff_open (N := N) (h := h) (Hc := Hc) (q := K.seq) (cc := 3 + 2 * j + 1) ht5 ⟨Y, _, HRS.out, by omega, .inl k⟩ hcc (by omega) HGO.out.cok HGO.out.c0 HGO.out.c1 HGO.out.room⟩
        | full k => exact ⟨_, K.H, .inr ⟨rfl, rfl⟩, doff_open (N := N) (h := setI h (pendL K)) (Hc := K.H) (q := K.seq + 1) (cc := 3 + 2 * j + 1) ht5 ⟨Y, _, HRS.out, by omega, .inr ⟨_, k⟩⟩ hcc (by omega) HGO.out.hok HGO.out.ok.zero HGO.out.ok.one hsec⟩
        | new k => exact ⟨_, K.H, .inr ⟨rfl, rfl⟩, doff_open (N := N) (h := setI h (pendL K)) (Hc := K.H) (q := K.seq + 1) (cc := 3 + 2 * j + 1) ht5 ⟨Y, _, HRS.out, by omega, .inl k⟩ hcc (by omega) HGO.out.hok HGO.out.ok.zero HGO.out.ok.one hsec⟩)
      obtain ⟨h', Hc', hwh, hop⟩ := HOPN.out
      have HWH := Lib.hid hwh
      have HOP5 := Lib.hid hop
      clear ht5 HRE HDN HBA HON hwh hop HOPN HLQ HWR
      go_wp2_with fail
      refine HOP5.out.mono ?_
      rintro e w6 ⟨g', K', rfl, ht6, hgo6, hF6, hH6, hsy6, -⟩
      have HT6 := Lib.hid (HT3.out.anew (sy' := K'.syncs) (h' := h') (Hc' := Hc') ht6)
      have HG6 := Lib.hid hgo6
      have HF6 := Lib.hid hF6
      have HH6 := Lib.hid hH6
      obtain ⟨gw', c0, -, -, -⟩ := ht6.st.wal
      have HCP := Lib.hid (dcopy_any ⟨_, _, _, _, HT6.out.sd.doc⟩ HLN1.out)
      clear ht6 hgo6 hF6 hH6 hsy6 HOP5
      go_wp2_with fail
      refine HCP.out.mono ?_
      rintro e w7 ⟨z, rfl, ⟨zh, zo, zu, zw, hz⟩, hb7⟩
      obtain ⟨zob, zcO, hvo, -, -⟩ := hz.on.form (by rw [HLO.out]; have := HNN.out; omega)
      rw [HLO.out] at hvo
      subst hvo
      obtain ⟨zub, zcU, hvu, -, -⟩ := hz.used.form (by rw [HMAT.out.used]; exact List.length_pos_of_mem HGO.out.ok.zero)
      obtain ⟨zwb, zcW, hvw, -, -⟩ := hz.was.form (by rw [HMAT.out.was]; exact List.length_pos_of_mem HGO.out.c0)
      rw [← HLU.out.1] at hvu
      rw [← HLW.out.1] at hvw
      subst hvu hvw
      obtain ⟨Q', hs7⟩ := HT6.out.redoc (h' := h') (Hc' := Hc') (sy' := K'.syncs) hz hb7
      have HT7 := Lib.hid hs7
      have HX7 := Lib.hid (HT6.out.below hb7).sd.doc
      have HZX : Hid (∀ b' ∈ docQ x vh (.slice (some ⟨ob, 0, none⟩) n cO) (.slice (some ⟨ub, 0, none⟩) nu cU) (.slice (some ⟨wb, 0, none⟩) nw cW), ∀ b'' ∈ docQ z zh (.slice (some ⟨zob, 0, none⟩) n zcO) (.slice (some ⟨zub, 0, none⟩) nu zcU) (.slice (some ⟨zwb, 0, none⟩) nw zcW), b' ≠ b'') := Lib.hid (fun b' h1 b'' h2 e => by
        have e1 := (HT6.out.sd.doc.range b' h1).2
        have e2 := (hz.range b'' h2).1
        omega)
      have z1c : w7.cell? ⟨z, 1, none⟩ = some (.slice (some ⟨zob, 0, none⟩) n zcO) := hz.blk.cell 1
      clear hz hb7 hs7 c0 HCP
      go_wp2_with fail
      go_loopw [474] (fun i wx => ∃ t : Nat, t ≤ n ∧ i = .int .i64 (t : Int) ∧ St w wx g' gd 0 N K' w4.heap.size bm bo #[.int .i64 7, .int .i64 a, .string S, .slice la ln lc] h' Hc' K'.syncs z zh (.slice (some ⟨zob, 0, none⟩) n zcO) (.slice (some ⟨zub, 0, none⟩) nu zcU) (.slice (some ⟨zwb, 0, none⟩) nw zcW) { s with on := blank s.on t } Q' [] (.pointer none) ∧ DocIs wx w4.heap.size x vh (.slice (some ⟨ob, 0, none⟩) n cO) (.slice (some ⟨ub, 0, none⟩) nu cU) (.slice (some ⟨wb, 0, none⟩) nw cW) s) (fun i _ => n - (intOf i).toNat)
      case atStart => exact ⟨0, Nat.zero_le _, rfl, HT7.out, HX7.out⟩
      case round =>
        obtain ⟨t, ht, rfl, hst, hxd⟩ := hrel
        clear z1c HT7 HX7
        have z1c : wr.cell? ⟨z, 1, none⟩ = some (.slice (some ⟨zob, 0, none⟩) n zcO) := hst.sd.doc.blk.cell 1
        have hbl : (blank s.on t).length = n := by rw [blank_len]; exact HLO.out
        by_cases hlt : t < n
        · have hltI : (t : Int) < (n : Int) := by omega
          obtain ⟨y, hy⟩ : ∃ y, (blank s.on t)[t]? = some y := ⟨_, List.getElem?_eq_getElem (by rw [hbl]; exact hlt)⟩
          have hro := hst.sd.doc.on
          simp only [hbl] at hro
          have ct : wr.cell? ⟨zob, t, none⟩ = some (.string y) := krow_cell hro (by show ((blank s.on t).map Value.string)[t]? = _; rw [List.getElem?_map, hy]; rfl)
          have ft : wr.frozen? ⟨zob, t, none⟩ = false := krow_frozen hro _
          have HN := Lib.hid (hst.on hbl.symm t ⟨#[]⟩)
          have HX := Lib.hid (hxd.far (b := zob) (i := t) (u := .string ⟨#[]⟩) fun b' h1 => HZX.out b' h1 zob (docQ_mem.2 (.inr (.inr (.inl rfl)))))
          clear hst hbl hro hy hxd
          go_wp2_with fail
          go_roundw
          case rel => exact ⟨t + 1, by omega, by go_num, HN.out, HX.out⟩
          case measure => simp [intOf]; omega
        · obtain rfl : t = n := by omega
          have HSR := Lib.hid hst
          have HXR := Lib.hid hxd
          obtain ⟨i0, hi, hz0, hz1, hz2⟩ := info_parts hints_info
          have z3c : wr.cell? ⟨z, 3, none⟩ = some (.slice (some ⟨zwb, 0, none⟩) nw zcW) := hst.sd.doc.blk.cell 3
          have hrw := hst.sd.doc.was
          simp only [← HLW.out.1] at hrw
          have HCW : Hid (∀ (j : Nat) (u : Value), (intV s.was)[j]? = some u → wr.cell? ((⟨zwb, 0, none⟩ : Addr).add j) = some u) := Lib.hid (fun j u hu => by
            rw [Go.WideShapes.add_plain, Nat.zero_add]
            exact krow_cell hrw hu)
          have hnw2 : nw ≤ 89 := by have := HLW.out.2; have := HNN.out; omega
          clear hst hbl hrw z1c hxd
          go_wp2_with (at_builtin; refine wpList_append_own _ rfl _ _ 39 rfl wr.heap.size 3 i0 (.int .i64 0) 1 8 Tryz.underlying39 hi hz0 hz1 hz2 rfl (by omega) (.slice none 0 0) 0 [] rfl (World.ownsRow_nil _ _ _ _) ⟨zwb, 0, none⟩ nw zcW (intV s.was) rfl (by unfold intV; rw [List.length_map, HLW.out.1]; omega) HCW.out (intV_one _) (by unfold maxLen; omega) (by omega) (Nat.le_refl _) ?_; intro v8 w8 hown8 hg8 _; have hb8 : Below wr.heap.size wr w8 := (Below.refl _ _).grown hg8 (Nat.le_refl _) (by simp [Value.ownBlock]); rw [List.nil_append, Nat.zero_add] at hown8; obtain ⟨p8, c8, hv8, -, -, -, -⟩ := krow_form hown8; subst hv8; have x2c : w8.cell? ⟨z, 2, none⟩ = some (.slice (some ⟨zub, 0, none⟩) nu zcU) := (HSR.out.below hb8).sd.doc.blk.cell 2; have x2f : w8.frozen? ⟨z, 2, none⟩ = false := (HSR.out.below hb8).sd.doc.blk.frozen 2; have HOWN8 := Lib.hid hown8; have HB8 := Lib.hid hb8; obtain ⟨w9, hw9⟩ : ∃ w9, w9 = w8.setCell ⟨z, 2, none⟩ (.slice p8 nw c8) := ⟨_, rfl⟩; have HW9 := Lib.hid hw9; have hown9 := HOWN8.out; rw [HLW.out.1] at hown9; have hs9 := HSR.out.used (v' := .slice p8 nw c8) (l := s.was) HB8.out HSR.out.big (.inr (by rw [HLW.out.1]; exact hown9)); have e9 : blank s.on t = List.replicate s.on.length .empty := (by rw [← HLO.out]; exact blank_all _); rw [e9] at hs9; obtain ⟨Q9, hs9⟩ := hs9; have hs9 : St w w9 g' gd 0 N K' w4.heap.size bm bo #[.int .i64 7, .int .i64 a, .string S, .slice la ln lc] h' Hc' K'.syncs z zh (.slice (some ⟨zob, 0, none⟩) t zcO) (.slice p8 nw c8) (.slice (some ⟨zwb, 0, none⟩) nw zcW) (offD s) Q9 [] (.pointer none) := (by rw [hw9]; exact hs9); have HS9 := Lib.hid hs9; have hx9 : DocIs w9 w4.heap.size x vh (.slice (some ⟨ob, 0, none⟩) t cO) (.slice (some ⟨ub, 0, none⟩) nu cU) (.slice (some ⟨wb, 0, none⟩) nw cW) s := (by rw [hw9]; exact (HXR.out.below hb8).far fun b' h1 => HZX.out b' h1 z (docQ_mem.2 (.inl rfl))); have HX9 := Lib.hid hx9; have his := HS9.out.is (by omega) HG6.out (by rw [HNN.out.1.symm]; exact HLH.out) (by rw [HNN.out.1.symm]; show (List.replicate _ _).length = _; rw [List.length_replicate]; exact HLO.out) (by show s.was.length ≤ _; exact HLN1.out.2.2.2) HLN1.out.2.2.2; have HIS := Lib.hid his; clear hown8 hg8 hb8 hw9 hown9 hs9 e9 hx9 his z3c)
          rw [← HW9.out]
          refine HIS.out.mono ?_
          rintro e wA ⟨rfl, hbA⟩
          have HSA := Lib.hid (HS9.out.below hbA)
          have HXA := Lib.hid (HX9.out.below hbA)
          clear hbA HIS
          cases hisd : isD K' (offD s) (N - 111) with
          | true =>
            have HP := Lib.hid (HSA.out.fin (cc := 3 + 2 * (j + 1)) (by omega) HG6.out (by omega) (HMAT.out.told HGO.out HG6.out HF6.out HH6.out hisd))
            clear hisd
            go_wp2_with fail
            refine Met.intro (hJ _ _ ⟨_, _, _, HP.out, frame11_ex (by kernel_rfl) (by kernel_rfl) (by kernel_rfl) (by kernel_rfl) (by kernel_rfl) (by kernel_rfl) (by kernel_rfl) (by kernel_rfl) (by kernel_rfl) (by kernel_rfl)⟩)
          | false =>
            have HNEW : Hid (h' = setI h (pendL K) ∧ Hc' = K.H) := Lib.hid (by
              rcases HWH.out with ⟨e1, e2⟩ | h1
              · subst e1 e2
                have h2 := (HMAT.out.off HF6.out HH6.out).is HG6.out
                rw [h2] at hisd
                cases hisd
              · exact h1)
            have HDS := Lib.hid (dsync11_any (n := t) ⟨_, _, _, _, HXA.out⟩ HLH.out HLO.out (by have := HNN.out; omega) HHK.out HLN1.out.2.2.1 HLN1.out.2.2.2)
            clear hisd
            go_wp2_with fail
            refine HDS.out.mono ?_
            rintro e wB ⟨y, rfl, ⟨yh, yo, yu, yw, hy⟩, hbB⟩
            obtain ⟨QB, hsB⟩ := HSA.out.redoc (h' := h') (Hc' := Hc') (sy' := K'.syncs) hy hbB
            have HMS := Lib.hid (HMAT.out.sync HGO.out (K' := K') HF6.out (HH6.out.trans HNEW.out.2))
            have HP := Lib.hid (hsB.fin (cc := 3 + 2 * (j + 1)) (by omega) HG6.out (by omega) (by rw [HNEW.out.1, HNEW.out.2]; exact HMS.out))
            clear hy hbB hsB HDS
            go_wp2_with fail
            refine Met.intro (hJ _ _ ⟨_, _, _, HP.out, frame11_ex (by kernel_rfl) (by kernel_rfl) (by kernel_rfl) (by kernel_rfl) (by kernel_rfl) (by kernel_rfl) (by kernel_rfl) (by kernel_rfl) (by kernel_rfl) (by kernel_rfl)⟩)
  by_cases k8 : kd = 8
  · subst k8
    have hls : IntsD w2 la l := fun hp => by
      obtain ⟨b', off', e, hb', hc⟩ := HLS.out w2 HST.out.at0 hp
      exact ⟨b', off', e, Nat.lt_of_lt_of_le hb' HST.out.at0.size, hc⟩
    have hfar : 0 < l.length → ∀ q, la = some q → q.block < w.heap.size := fun hp q e => by
      obtain ⟨b', off', e', hb', -⟩ := HLS.out w2 HST.out.at0 hp
      rw [e] at e'
      injection e' with e'
      subst e'
      exact hb'
    have HCR := Lib.hid (doff_crash HST.out.off la ln lc l HGO.out.sok HLN.out.symm hls hfar)
    have HCA : Hid (∃ Y n', (K.S.crash l).restore = calm Y n' ∧ n' ≤ 1000 * (3 + 2 * j) ∧ (Held N K.seq h Y ∨ ∃ T, Fulls N K.seq h T Y)) := Lib.hid (by
      obtain ⟨s0, hcl, hhe⟩ := HGO.out.held
      exact ⟨s0, K.S.writes, by rw [(hcl.crash l).restored, crash_writes], HGO.out.writes, .inl hhe⟩)
    have o3 : w2.cell? ⟨bo, 3, none⟩ = some (.slice la ln lc) := HST.out.op.cell 3
    clear hls hfar
    go_wp2_with fail
    refine HCR.out.mono ?_
    rintro e w3 ⟨rfl, ht3⟩
    have HRE := Lib.hid (doff_restore ht3)
    clear o3 ht3 HCR
    go_wp2_with fail
    refine HRE.out.mono ?_
    rintro e w5 ⟨rfl, ht5⟩
    have HOP5 := Lib.hid (doff_open (N := N) (h := h) (Hc := Hc) (q := K.seq) (cc := 3 + 2 * j) ht5 HCA.out (by have := HJ60.out; omega) (by have := HGO.out.seq; omega) HGO.out.cok HGO.out.c0 HGO.out.c1 HGO.out.room)
    clear ht5 HRE HCA
    go_wp2_with fail
    refine HOP5.out.mono ?_
    rintro e w6 ⟨g', K', rfl, ht6, hgo6, hF6, hH6, hsy6, -⟩
    have HT6 := Lib.hid (HST.out.anew (sy' := K'.syncs) (h' := h) (Hc' := Hc) ht6)
    have HG6 := Lib.hid hgo6
    have HF6 := Lib.hid hF6
    have HH6 := Lib.hid hH6
    obtain ⟨gw', c0, -, -, -⟩ := ht6.st.wal
    have x1c : w6.cell? ⟨x, 1, none⟩ = some (.slice (some ⟨ob, 0, none⟩) n cO) := HT6.out.sd.doc.blk.cell 1
    clear ht6 hgo6 hF6 hH6 hsy6 HOP5
    go_wp2_with fail
    go_loopw [532] (fun i wx => ∃ t : Nat, t ≤ n ∧ i = .int .i64 (t : Int) ∧ St w wx g' gd 0 N K' w4.heap.size bm bo #[.int .i64 8, .int .i64 a, .string S, .slice la ln lc] h Hc K'.syncs x vh (.slice (some ⟨ob, 0, none⟩) n cO) (.slice (some ⟨ub, 0, none⟩) nu cU) (.slice (some ⟨wb, 0, none⟩) nw cW) { s with on := blank s.on t } Q [] (.pointer none)) (fun i _ => n - (intOf i).toNat)
    case atStart => exact ⟨0, Nat.zero_le _, rfl, HT6.out⟩
    case round =>
      obtain ⟨t, ht, rfl, hst⟩ := hrel
      clear c0 x1c HT6
      have x1c : wr.cell? ⟨x, 1, none⟩ = some (.slice (some ⟨ob, 0, none⟩) n cO) := hst.sd.doc.blk.cell 1
      have hbl : (blank s.on t).length = n := by rw [blank_len]; exact HLO.out
      by_cases hlt : t < n
      · have hltI : (t : Int) < (n : Int) := by omega
        obtain ⟨z, hz⟩ : ∃ z, (blank s.on t)[t]? = some z := ⟨_, List.getElem?_eq_getElem (by rw [hbl]; exact hlt)⟩
        have hro := hst.sd.doc.on
        simp only [hbl] at hro
        have ct : wr.cell? ⟨ob, t, none⟩ = some (.string z) := krow_cell hro (by show ((blank s.on t).map Value.string)[t]? = _; rw [List.getElem?_map, hz]; rfl)
        have ft : wr.frozen? ⟨ob, t, none⟩ = false := krow_frozen hro _
        have HN := Lib.hid (hst.on hbl.symm t ⟨#[]⟩)
        clear hst hbl hro hz
        go_wp2_with fail
        go_roundw
        case rel => exact ⟨t + 1, by omega, by go_num, HN.out⟩
        case measure => simp [intOf]; omega
      · obtain rfl : t = n := by omega
        have HSR := Lib.hid hst
        obtain ⟨i0, hi, hz0, hz1, hz2⟩ := info_parts hints_info
        have x3c : wr.cell? ⟨x, 3, none⟩ = some (.slice (some ⟨wb, 0, none⟩) nw cW) := hst.sd.doc.blk.cell 3
        have hrw := hst.sd.doc.was
        simp only [← HLW.out.1] at hrw
        have HCW : Hid (∀ (j : Nat) (u : Value), (intV s.was)[j]? = some u → wr.cell? ((⟨wb, 0, none⟩ : Addr).add j) = some u) := Lib.hid (fun j u hu => by
          rw [Go.WideShapes.add_plain, Nat.zero_add]
          exact krow_cell hrw hu)
        have hnw2 : nw ≤ 89 := by have := HLW.out.2; have := HNN.out; omega
        clear hst hbl hrw x1c
        go_wp2_with (at_builtin; refine wpList_append_own _ rfl _ _ 39 rfl wr.heap.size 3 i0 (.int .i64 0) 1 8 Tryz.underlying39 hi hz0 hz1 hz2 rfl (by omega) (.slice none 0 0) 0 [] rfl (World.ownsRow_nil _ _ _ _) ⟨wb, 0, none⟩ nw cW (intV s.was) rfl (by unfold intV; rw [List.length_map, HLW.out.1]; omega) HCW.out (intV_one _) (by unfold maxLen; omega) (by omega) (Nat.le_refl _) ?_; intro v7 w7 hown7 hg7 _; have hb7 : Below wr.heap.size wr w7 := (Below.refl _ _).grown hg7 (Nat.le_refl _) (by simp [Value.ownBlock]); rw [List.nil_append, Nat.zero_add] at hown7; obtain ⟨p7, c7, hv7, -, -, -, -⟩ := krow_form hown7; subst hv7; have x2c : w7.cell? ⟨x, 2, none⟩ = some (.slice (some ⟨ub, 0, none⟩) nu cU) := (HSR.out.below hb7).sd.doc.blk.cell 2; have x2f : w7.frozen? ⟨x, 2, none⟩ = false := (HSR.out.below hb7).sd.doc.blk.frozen 2; have HOWN7 := Lib.hid hown7; have HB7 := Lib.hid hb7; clear hown7 hg7 hb7 x3c)
        have hown7 := HOWN7.out
        rw [HLW.out.1] at hown7
        obtain ⟨Q', hs8⟩ := HSR.out.used (v' := .slice p7 nw c7) (l := s.was) HB7.out HSR.out.big (.inr (by rw [HLW.out.1]; exact hown7))
        have HP := Lib.hid (hs8.fin (cc := 3 + 2 * (j + 1)) (by omega) HG6.out (by omega) (by
          have hm := HMAT.out.off HF6.out HH6.out
          have e : blank s.on t = List.replicate s.on.length .empty := by rw [← HLO.out]; exact blank_all _
          rw [e]
          exact hm))
        clear hown7 hs8
        refine Met.intro (hJ _ _ ⟨_, _, _, HP.out, frame11_ex (by kernel_rfl) (by kernel_rfl) (by kernel_rfl) (by kernel_rfl) (by kernel_rfl) (by kernel_rfl) (by kernel_rfl) (by kernel_rfl) (by kernel_rfl) (by kernel_rfl)⟩)
  have hls : IntsD w2 la l := fun hp => by
    obtain ⟨b', off', e, hb', hc⟩ := HLS.out w2 HST.out.at0 hp
    exact ⟨b', off', e, Nat.lt_of_lt_of_le hb' HST.out.at0.size, hc⟩
  obtain ⟨m1, hm1⟩ : ∃ m1, m1 = max a 0 := ⟨_, rfl⟩
  obtain ⟨a', ha'⟩ : ∃ a', a' = min m1 60 := ⟨_, rfl⟩
  have hr : 0 ≤ a' ∧ a' ≤ 60 := by omega
  have HARM := Lib.hid (gmk_arm HST.out.dq.1 a' la ln lc l HLN.out.symm hls HLL.out.2 (by have := HLL.out.1; omega) (by
    obtain ⟨s0, b1, b2⟩ := HGO.out.held
    have h1 := b1.armed hr.1 l
    rw [h1.now, b1.now]))
  have HG2 := Lib.hid (HGO.out.arm hr.1 hr.2 l)
  have e1 : max a 0 = m1 := hm1.symm
  have e2 : min m1 60 = a' := ha'.symm
  have o1 : w2.cell? ⟨bo, 1, none⟩ = some (.int .i64 a) := HST.out.op.cell 1
  have o3 : w2.cell? ⟨bo, 3, none⟩ = some (.slice la ln lc) := HST.out.op.cell 3
  clear hm1 ha' hr hls
  go_wp2_with fail
  refine HARM.out.mono ?_
  rintro e w3 ⟨rfl, ht⟩
  have HP := Lib.hid ((HST.out.turn ht).fin (by have := HMC.out; omega : m ≤ 3 + 2 * (j + 1)) HG2.out (by omega) ⟨HMAT.out.home, HMAT.out.ol, HMAT.out.on, HMAT.out.used, HMAT.out.was⟩)
  clear ht o1 o3 e1 e2
  go_wp2_with fail
  refine Met.intro (hJ _ _ ⟨_, _, _, HP.out, frame11_ex (by kernel_rfl) (by kernel_rfl) (by kernel_rfl) (by kernel_rfl) (by kernel_rfl) (by kernel_rfl) (by kernel_rfl) (by kernel_rfl) (by kernel_rfl) (by kernel_rfl)⟩)
theorem dplays_any (n : Int) (A : Option Addr) (nl c : Nat) (ds : List Op11) (w : World) (hA : Acts11Cap w A nl c ds) :
    Calls Tryz.prog 3 #[.int .i64 n, .slice A nl c] w fun e w' => e = .returned (.bool true) ∧ Below w.heap.size w w' := by
  by_cases h : n < 140 ∨ 200 < n
  · exact dplays_out n A nl c w h
  · obtain ⟨N, rfl⟩ := Int.eq_ofNat_of_zero_le (show 0 ≤ n by omega)
    exact dplays_in N A nl c ds w hA (by omega)
end Go.Proofs.YtiagofgcinlnhaaGreatDoor
