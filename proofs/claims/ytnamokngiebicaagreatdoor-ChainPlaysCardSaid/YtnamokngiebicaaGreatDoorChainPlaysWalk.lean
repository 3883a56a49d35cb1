/-
  ChainPlays: the law's walk. No statement is proved here.
-/
import Derived.Test.YtnamokngiebicaaGreatDoorChainSteps
import Derived.Test.YtnamokngiebicaaGreatDoorPhaseLast
namespace Go.Proofs.YtnamokngiebicaaGreatDoor
open Go.RowKit

theorem light_cases12 (e : Ending) (ds : List Op12) (h : LightSays12 ds e) : e = .returned (.bool false) ∨ (e = .returned (.bool true) ∧ ds.length ≤ 40 ∧ ∀ d ∈ ds, d.light) := by
  obtain ⟨r, rfl, h⟩ := h
  cases r with
  | false => exact .inl rfl
  | true => exact .inr ⟨rfl, h rfl⟩
def opObj (kd k gen tag by_ : Int) (s : ByteArray) (more : Int) : Obj := .cells #[.int .i64 kd, .int .i64 k, .int .i64 gen, .int .i64 tag, .int .i64 by_, .string s, .int .i64 more] 71 (0, 0)
theorem held_cell {w : World} {b : Nat} {cur : Array Value} {e : TypeId} (h : w.heap[b]? = some (.cells cur e (0, 0))) (i : Nat) : w.cell? ⟨b, i, none⟩ = cur[i]? := Blk.cell (show Blk w b e cur from h) i
set_option maxRecDepth 100000 in
set_option maxHeartbeats 16000000 in
theorem cplays_out (n : Int) (A : Option Addr) (nl c : Nat) (size : Int) (w : World) (ho : n < 140 ∨ 400 < n) :
    Calls Tryz.prog 4 #[.int .i64 n, .slice A nl c, .int .i64 size] w fun e w' => e = .returned (.bool true) ∧ Below w.heap.size w w' := by
  have HA := Lib.hid alive12_any
  by_cases h1 : n < 140
  · clear ho
    go_enter Tryz.func4, Tryz.ntmps4
    go_wp2_with (go_at_call 34; refine (HA.out _).mono ?_; rintro e w1 ⟨rfl, hb1⟩)
    go_ret
    exact ⟨rfl, hb1⟩
  have h2 : 400 < n := by omega
  clear ho
  go_enter Tryz.func4, Tryz.ntmps4
  go_wp2_with (go_at_call 34; refine (HA.out _).mono ?_; rintro e w1 ⟨rfl, hb1⟩)
  go_ret
  exact ⟨rfl, hb1⟩
set_option maxRecDepth 100000 in
set_option maxHeartbeats 16000000 in
theorem cplays_in (N : Nat) (A : Option Addr) (nl c : Nat) (ds : List Op12) (size : Int) (w : World) (hA : Acts12In w A nl c ds) (hN : 140 ≤ N ∧ N ≤ 400) (hs : -9223372036854775808 ≤ size ∧ size ≤ 9223372036854775807) :
    Calls Tryz.prog 4 #[.int .i64 (N : Int), .slice A nl c, .int .i64 size] w fun e w' => e = .returned (.bool true) ∧ Below w.heap.size w w' := by
  have HAL := Lib.hid alive12_any
  have HLI := Lib.hid (light12_any A nl c ds w w hA (Below.refl _ _))
  have HFR : Hid (∀ w1, Below w.heap.size w w1 → Calls Tryz.prog 35 #[.int .i64 (N : Int)] w1 fun e w' => ∃ g gd K h, e = .returned (.pointer (some ⟨g, 0, none⟩)) ∧ DMk w w' g gd 1 N K [] ∧ Fresh11 N K h) := Lib.hid (fun w1 hb => fresh12_any hN w w1 hb)
  obtain ⟨q, hq⟩ : ∃ q : Int, q = min size 1099511627776 := ⟨_, rfl⟩
  have HND := Lib.hid (fun w1 => lkneed_any q w1 (by omega))
  have HNE := Lib.hid (fun w1 => need12_any q w1 (by omega))
  obtain ⟨z, hz⟩ : ∃ z, z = needI q := ⟨_, rfl⟩
  rw [← hz] at HND HNE
  have hzz : (z == z) = true := by simp
  have HQ : Hid (min size 1099511627776 = q) := Lib.hid hq.symm
  have n1 : ¬ (N : Int) < 140 := by omega
  have n2 : ¬ 400 < (N : Int) := by omega
  have n3 : IntKind.i64.wrap ((N : Int) - 113) = (N : Int) - 113 := by rw [IntKind.wrap_i64]; omega
  have HNN := Lib.hid hN
  have HIN := Lib.hid hA
  clear hA hN hq hz hs
  go_enter Tryz.func4, Tryz.ntmps4
  go_wp2_with fail
  refine HLI.out.mono ?_
  rintro e w1 ⟨hl1, hb1⟩
  have HB1 := Lib.hid hb1
  clear hb1 HLI
  rcases light_cases12 _ _ hl1 with rfl | ⟨rfl, hn1, hf1⟩
  · clear hl1
    go_wp2_with (go_at_call 34; refine (HAL.out _).mono ?_; rintro e w2 ⟨rfl, hb2⟩; have HB2 := Lib.hid (HB1.out.trans (hb2.mono HB1.out.size)); clear hb2)
    go_ret
    exact ⟨rfl, HB2.out⟩
  have HF1 := Lib.hid hf1
  have HM1 : Hid (nl ≤ 40) := Lib.hid (by rw [← HIN.out.len]; exact hn1)
  clear hl1 hf1 hn1
  go_wp2_with fail
  refine (HAL.out _).mono ?_
  rintro e w2 ⟨rfl, hb2⟩
  have HB2 := Lib.hid (HB1.out.trans (hb2.mono HB1.out.size))
  clear hb2 HB1 HAL
  go_wp2_with fail
  refine (HFR.out w2 HB2.out).mono ?_
  rintro e w3 ⟨g, gd, K0, h, rfl, hs3, hf⟩
  have HP3 : Hid (Pl12 w w3 g gd 1 N h K0 [] [] none 0) := Lib.hid ⟨hs3, hf.run, St12.fresh hf, HeldRow.nil⟩
  obtain ⟨gw, c0, -, -, -⟩ := hs3.st.wal
  clear hs3 hf HFR HB2
  go_wp2_with fail
  go_loopw [8, 9, 10] (fun v f i wr => ∃ (j : Nat) (K : KD) (Ms : List MK) (cs : List CH) (p : Option Addr) (cap : Nat), j ≤ nl ∧ v = .slice p cs.length cap ∧ f = .int .i64 (freeI N cs) ∧ i = .int .i64 j ∧ Pl12 w wr g gd (1 + 41 * j) N h K Ms cs p cap) (fun _ _ i _ => nl - (intOf i).toNat)
  case atStart => exact ⟨0, K0, [], [], none, 0, Nat.zero_le _, rfl, by simp [freeI, secsOf], rfl, HP3.out⟩
  case round =>
    clear HP3
    obtain ⟨j, K, Ms, cs, p, cap, hj, rfl, rfl, rfl, hp⟩ := hrel
    have HP := Lib.hid hp
    clear hp
    by_cases hlt : j < nl
    rotate_left
    · as_aux_lemma =>
      refine id ?_
      obtain rfl : j = nl := by omega
      have hq := HQ.out
      go_wp2_with (first | (go_at_call 47; refine (HND.out _).mono ?_; rintro e w5 ⟨rfl, rfl⟩) | (go_at_call 38; refine (HNE.out _).mono ?_; rintro e w6 ⟨rfl, rfl⟩))
      go_ret
      exact ⟨rfl, HP.out.base⟩
    have hlt' : j < ds.length := by rw [HIN.out.len]; exact hlt
    obtain ⟨d, hd⟩ : ∃ d, d = ds[j] := ⟨_, rfl⟩
    have hdj : ds[j]? = some d := by rw [hd]; exact List.getElem?_eq_getElem hlt'
    obtain ⟨b0, off, hA0, hbw, hbB, hc⟩ := (HIN.out.lie.below HP.out.base.size HP.out.base) (by omega)
    obtain ⟨c0, c1, c2, c3, c4, c5, c6, hin⟩ := hc j d hdj
    have hL := HF1.out d (by rw [hd]; exact List.getElem_mem hlt')
    have HD1 := Lib.hid hin
    have HD2 : Hid (d.s.size ≤ 8000) := Lib.hid hL
    have hjI : (j : Int) < (nl : Int) := by omega
    have hn40 : (nl : Int) ≤ 40 := by have := HM1.out; omega
    have HM40 : Hid (j < 40) := Lib.hid (by have := HM1.out; omega)
    subst hA0
    obtain ⟨kd, k, gen, tag, by_, s, more⟩ := d
    simp only at c0 c1 c2 c3 c4 c5 c6 HD2
    clear hd hdj hc hin hL hlt' hbB
    go_upto_region 12 with fail
    obtain ⟨W0, hW0⟩ : ∃ W0, W0 = wr.alloc (.cells #[.int .i64 kd, .int .i64 k, .int .i64 gen, .int .i64 tag, .int .i64 by_, .string s, .int .i64 more] 71) := ⟨_, rfl⟩
    rw [← hW0]
    obtain ⟨og, hog⟩ : ∃ og, og = wr.heap.size := ⟨_, rfl⟩
    rw [← hog]
    have hwb : Below wr.heap.size wr W0 := by rw [hW0]; exact (Below.refl _ _).alloc (Nat.le_refl _) _
    have hob : W0.heap[og]? = some (opObj kd k gen tag by_ s more) := by rw [hW0, hog]; exact heap_alloc_new wr _
    have HS0 := Lib.hid (HP.out.st.hold hwb (Nat.le_of_eq hog.symm) hob)
    obtain ⟨Ms0, hMs0⟩ : ∃ Ms0, Ms0 = MK.held og (opObj kd k gen tag by_ s more) :: Ms := ⟨_, rfl⟩
    rw [← hMs0] at HS0
    have HOP0 : Hid (MK.held og (opObj kd k gen tag by_ s more) ∈ Ms0) := Lib.hid (by rw [hMs0]; simp)
    have HSUB : Hid (∀ M ∈ Ms, M ∈ Ms0) := Lib.hid (by rw [hMs0]; exact fun M h => List.mem_cons_of_mem _ h)
    have HDI := Lib.hid (dmk_dirty HS0.out HP.out.run (by have := HM40.out; omega))
    obtain ⟨pn, hpn⟩ : ∃ pn, pn = pendT K := ⟨_, rfl⟩
    rw [← hpn] at HDI
    have HPN := Lib.hid hpn
    have HPF : Hid (pn.length ≤ 400) := Lib.hid (by rw [hpn]; exact pend_few HP.out.run)
    clear hW0 hog hwb hob hMs0 hpn c0 c1 c2 c3 c4 c5 c6
    go_wp2_with fail
    refine HDI.out.mono ?_
    rintro e w4 ⟨pA, pc, rfl, hrow, hb4⟩
    obtain ⟨Ms1, t1, t2, t3⟩ := HS0.out.holdRow hb4 hrow
    have HP1 : Hid (Pl12 w w4 g gd (1 + 41 * j) N h K Ms1 cs p cap) := Lib.hid ⟨t1, HP.out.run, HP.out.on, HP.out.row.more (fun M hM => t3 M (HSUB.out M hM))⟩
    have HWAS := Lib.hid t2
    have HOP : Hid (MK.held og (opObj kd k gen tag by_ s more) ∈ Ms1) := Lib.hid (t3 _ HOP0.out)
    have hop := t1.held HOP.out
    have x0 := held_cell hop 0
    have x1 := held_cell hop 1
    have x2 := held_cell hop 2
    have x3 := held_cell hop 3
    have x4 := held_cell hop 4
    have x5 := held_cell hop 5
    have x6 := held_cell hop 6
    simp at x0 x1 x2 x3 x4 x5 x6
    clear hrow hb4 t1 t2 t3 hop HS0 HOP0 HSUB HDI HP
    have HCONT : Hid (∀ (K : KD) (Ms : List MK) (cs : List CH) (p : Option Addr) (cap : Nat) (wx : World), Pl12 w wx g gd (1 + 41 * j) N h K Ms cs p cap → Pl12 w wx g gd (1 + 41 * (j + 1)) N h K Ms cs p cap) := Lib.hid (fun _ _ _ _ _ _ h => h.mono (by omega))
    by_cases hcon : (kd = 2 ∨ kd = 3) ∧ cs = []
    · as_aux_lemma =>
      refine id ?_
      obtain ⟨hk, hcs⟩ := hcon
      subst hcs
      have hk1 : ¬ kd = 1 := by omega
      rcases hk with rfl | rfl
      · as_aux_lemma =>
        refine id ?_
        go_wp2_with fail
        go_roundw
        case rel => exact ⟨j + 1, K, Ms1, [], p, cap, by omega, rfl, rfl, by go_num, HCONT.out _ _ _ _ _ _ HP1.out⟩
        case measure => simp [intOf]; omega
      · as_aux_lemma =>
        refine id ?_
        go_wp2_with fail
        go_roundw
        case rel => exact ⟨j + 1, K, Ms1, [], p, cap, by omega, rfl, rfl, by go_num, HCONT.out _ _ _ _ _ _ HP1.out⟩
        case measure => simp [intOf]; omega
    go_upto_block 2 with fail
    go_cut [8, 9, 13, 14, 15, 16, 17, 18, 19, 20] from 65 to 257 (fun v8 v9 _ _ _ _ _ _ _ _ wx => ∃ (K : KD) (Ms : List MK) (cs : List CH) (p : Option Addr) (cap : Nat), v8 = .slice p cs.length cap ∧ v9 = .int .i64 (freeI N cs) ∧ Pl12 w wx g gd (1 + 41 * (j + 1)) N h K Ms cs p cap)
    case first =>
      by_cases k1 : kd = 1
      · refine id ?_
        subst k1
        have HOPC : Hid (∀ wx, Below w4.heap.size w4 wx → wx.heap[og]? = some (opObj 1 k gen tag by_ s more)) := Lib.hid (fun wx hb => (HP1.out.below hb).st.held HOP.out)
        obtain ⟨m0, hm0⟩ : ∃ m0, m0 = max more 0 := ⟨_, rfl⟩
        obtain ⟨z0, hz0⟩ : ∃ z0 : Nat, (z0 : Int) = min m0 3000 := ⟨(min m0 3000).toNat, by omega⟩
        have hz1 : z0 ≤ 3000 := by omega
        obtain ⟨Z, hZ⟩ : ∃ Z, Z = zeroB z0 := ⟨_, rfl⟩
        have HZ : Hid (∀ w1, Calls Tryz.prog 9 #[.int .i64 (z0 : Int)] w1 fun e w' => e = .returned (.string Z) ∧ Below w1.heap.size w1 w') := Lib.hid (fun w1 => by rw [hZ]; exact ref_zeros z0 w1 (by omega))
        have HZS : Hid (Z.size = z0) := Lib.hid (by rw [hZ]; exact zeroB_size z0)
        have HSS := Lib.hid (show s.size ≤ 8000 from HD2.out)
        have hjn : ¬ (9223372036854775807 < s.size + Z.size) := by have := HZS.out; have := HSS.out; omega
        have e1 : max more 0 = m0 := hm0.symm
        have e2 : min m0 3000 = (z0 : Int) := hz0.symm
        have HZB := Lib.hid hz1
        have HD3 := Lib.hid HD1.out
        clear hm0 hz0 hZ hz1
        go_upto_region 15 with fail
        go_cut [13] from 67 to 74 (fun v wx => v = .string (s ++ Z) ∧ Below w4.heap.size w4 wx)
        case first =>
          have h0J : Below w4.heap.size w4 w4.drew := (Below.refl _ _).drew
          have HC : Hid (∀ wx, Below w4.heap.size w4 wx → wx.cell? ⟨og, 5, none⟩ = some (.string s) ∧ wx.cell? ⟨og, 6, none⟩ = some (.int .i64 more)) := Lib.hid (fun wx hb => ⟨held_cell (HOPC.out wx hb) 5, held_cell (HOPC.out wx hb) 6⟩)
          clear x0 x1 x2 x3 x4 x5 x6
          refine wp_region_grow (Below w4.heap.size w4) (by kernel_rfl) (by kernel_rfl) h0J ?_
          apply grow_step
          · intro w' hw K hK
            go_simp
            exact hK
          · exact ⟨_, rfl, Nat.le_of_ble_eq_true rfl⟩
          · exact ⟨_, h0J⟩
          apply grow_step
          · intro w' hw K hK
            obtain ⟨y5, y6⟩ := HC.out w' hw
            go_simp
            exact hK
          · exact ⟨_, rfl, Nat.le_of_ble_eq_true rfl⟩
          · exact ⟨_, h0J⟩
          apply grow_step
          · intro w' hw K hK
            go_simp
            exact hK
          · exact ⟨_, rfl, Nat.le_of_ble_eq_true rfl⟩
          · exact ⟨_, h0J⟩
          apply grow_step
          · intro w' hw K hK
            obtain ⟨y5, y6⟩ := HC.out w' hw
            go_simp
            exact hK
          · exact ⟨_, rfl, Nat.le_of_ble_eq_true rfl⟩
          · exact ⟨_, h0J⟩
          apply grow_step
          · intro w' hw K hK
            go_simp
            exact hK
          · exact ⟨_, rfl, Nat.le_of_ble_eq_true rfl⟩
          · exact ⟨_, h0J⟩
          apply grow_step
          · intro w' hw K hK
            go_simp
            exact hK
          · exact ⟨_, rfl, Nat.le_of_ble_eq_true rfl⟩
          · exact ⟨_, h0J⟩
          refine grow_call (fun w' hw => (HZ.out w').mono fun e w'' ⟨he, hb⟩ => ⟨he, hw.trans (hb.mono hw.size)⟩) (by simp [Region.wanted]) (fun w' hw => by go_simp) ?_
          simp only [Act.put, List.setIfInBounds_toArray, List.set_cons_succ, List.set_cons_zero]
          apply grow_step
          · intro w' hw K hK
            go_simp
            exact hK
          · exact ⟨_, rfl, Nat.le_of_ble_eq_true rfl⟩
          · exact ⟨_, h0J⟩
          apply grow_step
          · intro w' hw K hK
            go_simp
            exact hK
          · exact ⟨_, rfl, Nat.le_of_ble_eq_true rfl⟩
          · exact ⟨_, h0J⟩
          refine grow_nil ?_
          intro w5 hw5
          have HW5 := Lib.hid hw5
          clear hw5 h0J
          go_wp2_with fail
          go_meet
          exact ⟨rfl, HW5.out⟩
        case rest =>
        obtain ⟨rfl, hb5⟩ := hcut
        have HB5 := Lib.hid hb5
        obtain ⟨w5, hw5⟩ : ∃ w5, w5 = wc := ⟨_, rfl⟩
        subst hw5
        have hop5 := HOPC.out w5 hb5
        have q6 := held_cell hop5 6
        simp at q6
        obtain ⟨B1, hB1⟩ : ∃ B1, B1 = s ++ Z := ⟨_, rfl⟩
        have HB1S : Hid (B1.size ≤ 11000) := Lib.hid (by rw [hB1, ByteArray.size_append]; have := HZS.out; have := HSS.out; have := HZB.out; omega)
        rw [← hB1]
        clear hb5 hop5 x0 x1 x2 x3 x4 x5 x6 hB1 hjn e1 e2
        obtain ⟨Z7, hZ7⟩ : ∃ Z, Z = zeroB 7000 := ⟨_, rfl⟩
        have HZ7 : Hid (∀ w1, Calls Tryz.prog 9 #[.int .i64 7000] w1 fun e w' => e = .returned (.string Z7) ∧ Below w1.heap.size w1 w') := Lib.hid (fun w1 => by rw [hZ7]; exact ref_zeros 7000 w1 (by omega))
        have HZ7S : Hid (Z7.size = 7000) := Lib.hid (by rw [hZ7]; exact zeroB_size 7000)
        have hjn : ¬ (9223372036854775807 < B1.size + Z7.size) := by have := HZ7S.out; have := HB1S.out; omega
        clear hZ7
        go_upto_region 16 with fail
        go_upto_if 77 with fail
        go_cut [13] from 77 to 80 (fun v wx => ∃ X : ByteArray, v = .string X ∧ X.size ≤ 18000 ∧ Below w4.heap.size w4 wx)
        case first =>
          as_aux_lemma =>
          refine id ?_
          by_cases h9 : 9000 < more
          · go_wp2_with fail
            refine (HZ7.out _).mono ?_
            rintro e w6 ⟨rfl, hb6⟩
            have HB6 := Lib.hid (HB5.out.trans (hb6.mono HB5.out.size))
            clear hb6
            go_wp2_with fail
            go_meet
            exact ⟨_, rfl, by rw [ByteArray.size_append]; have := HZ7S.out; have := HB1S.out; omega, HB6.out⟩
          · go_wp2_with fail
            go_meet
            exact ⟨_, rfl, by have := HB1S.out; omega, HB5.out⟩
        case rest =>
        obtain ⟨b, rfl, hbs, hb6⟩ := hcut
        have HB6 := Lib.hid hb6
        have HBS := Lib.hid hbs
        clear q6 hjn HZ7 HZ7S HB1S HB5 HZ HZS HZB HSS
        obtain ⟨w6, hw6⟩ : ∃ w6, w6 = wc := ⟨_, rfl⟩
        subst hw6
        have hop6 := HOPC.out w6 hb6
        have q2 := held_cell hop6 2
        have q3 := held_cell hop6 3
        simp at q2 q3
        have HPUT := Lib.hid (pl_put (HP1.out.below hb6) (by have := HM40.out; omega) gen tag b (by omega))
        clear hop6 hb6 hbs
        go_wp2_with fail
        refine HPUT.out.mono ?_
        rintro e w7 hq7
        have hcase : (∃ E : Int, (E == 0) = false ∧ e = .returned (.tuple #[.int .i64 0, .int .i64 E]) ∧ Pl12 w w7 g gd (1 + 41 * j + 40) N h K Ms1 cs p cap ∧
            ((E = 1 ∧ (gen < 1 ∨ 3 < gen ∨ tag < 0 ∨ 200 < tag)) ∨ (E = 2 ∧ (1 ≤ gen ∧ gen ≤ 3 ∧ 0 ≤ tag ∧ tag ≤ 200) ∧ 9440 < b.size) ∨ (E = 20 ∧ (1 ≤ gen ∧ gen ≤ 3 ∧ 0 ≤ tag ∧ tag ≤ 200) ∧ b.size ≤ 9440 ∧ freeI N cs < needI b.size))) ∨
          ((1 ≤ gen ∧ gen ≤ 3 ∧ 0 ≤ tag ∧ tag ≤ 200) ∧ b.size ≤ 9440 ∧ needI b.size ≤ freeI N cs ∧ ∃ (K' : KD) (ps : List Int), e = .returned (.tuple #[.int .i64 (ps.getD 0 0), .int .i64 0]) ∧ DMk w w7 g gd (1 + 41 * j + 40) N K' Ms1 ∧ Run11 N K' h 2 ∧ St12 K' (cs ++ [⟨gen, tag, 1, b, ps⟩]) ∧ freeI N (cs ++ [⟨gen, tag, 1, b, ps⟩]) = freeI N cs - needI b.size) := by
          cases hq7 with
          | arg a1 a2 a3 => exact .inl ⟨1, by decide, a2, a3, .inl ⟨rfl, a1⟩⟩
          | long a1 a2 a3 a4 => exact .inl ⟨2, by decide, a3, a4, .inr (.inl ⟨rfl, a1, a2⟩)⟩
          | full a1 a2 a3 a4 a5 => exact .inl ⟨20, by decide, a4, a5, .inr (.inr ⟨rfl, a1, a2, a3⟩)⟩
          | done a1 a2 a3 K' ps a4 a5 a6 a7 a8 => exact .inr ⟨a1, a2, a3, K', ps, a4, a5, a6, a7, a8⟩
        have HNEED := Lib.hid (fun w1 => need12_any (b.size : Int) w1 (by have := HBS.out; omega))
        obtain ⟨nb, hnb⟩ : ∃ nb, nb = needI b.size := ⟨_, rfl⟩
        obtain ⟨fr, hfr⟩ : ∃ fr, fr = freeI N cs := ⟨_, rfl⟩
        rw [← hnb] at HNEED hcase
        rw [← hfr] at hcase ⊢
        have HNB := Lib.hid hnb
        have HFRE := Lib.hid hfr
        clear hq7 q2 q3 hnb hfr HPUT
        rcases hcase with ⟨E, hE, rfl, hp7, hw⟩ | ⟨hfit, hsz, hroom, K', ps, rfl, hd7, hr7, hs7, hfr7⟩
        · as_aux_lemma =>
          refine id ?_
          have HP7 := Lib.hid hp7
          have HWANT := Lib.hid hw
          have hop7 := hp7.st.held HOP.out
          have q2 := held_cell hop7 2
          have q3 := held_cell hop7 3
          simp at q2 q3
          clear hp7 hw hop7
          go_upto_block 3 with fail
          go_cut [16] from 91 to 119 (fun v wx => v = .int .i64 E ∧ wx = w7)
          case first =>
            rcases HWANT.out with ⟨rfl, hbad⟩ | ⟨rfl, ⟨g1, g2, g3, g4⟩, hlong⟩ | ⟨rfl, ⟨g1, g2, g3, g4⟩, hlong, hful⟩
            · by_cases b1 : gen < 1
              · clear hbad
                go_wp2_with fail
                go_meet
                exact ⟨rfl, rfl⟩
              by_cases b2 : 3 < gen
              · clear hbad
                go_wp2_with fail
                go_meet
                exact ⟨rfl, rfl⟩
              by_cases b3 : tag < 0
              · clear hbad
                go_wp2_with fail
                go_meet
                exact ⟨rfl, rfl⟩
              have b4 : 200 < tag := by omega
              clear hbad
              go_wp2_with fail
              go_meet
              exact ⟨rfl, rfl⟩
            · have g1' : ¬ gen < 1 := by omega
              have g2' : ¬ 3 < gen := by omega
              have g3' : ¬ tag < 0 := by omega
              have g4' : ¬ 200 < tag := by omega
              have hlI : (9440 : Int) < (b.size : Int) := by omega
              clear g1 g2 g3 g4 hlong
              go_wp2_with fail
              go_meet
              exact ⟨rfl, rfl⟩
            · have g1' : ¬ gen < 1 := by omega
              have g2' : ¬ 3 < gen := by omega
              have g3' : ¬ tag < 0 := by omega
              have g4' : ¬ 200 < tag := by omega
              have hlI : ¬ (9440 : Int) < (b.size : Int) := by omega
              clear g1 g2 g3 g4 hlong
              go_wp2_with (go_at_call 38; refine (HNEED.out _).mono ?_; rintro e w8 ⟨rfl, rfl⟩)
              go_meet
              exact ⟨rfl, rfl⟩
          case rest =>
          obtain ⟨rfl, hw⟩ := hcut
          subst hw
          have hEE : (E == E) = true := by simp
          have hE3 : ¬ E = 0 := by simpa using hE
          have hE2 : (E != 0) = true := by simpa using hE3
          have hEF : (E != E) = false := by simp
          have HDI2 := Lib.hid (dmk_dirty HP7.out.st HP7.out.run (by have := HM40.out; omega))
          rw [← HPN.out] at HDI2
          clear q2 q3 HWANT
          go_wp2_with fail
          refine HDI2.out.mono ?_
          rintro e w8 ⟨A8, c8, rfl, hrow8, hb8⟩
          have HP8 := Lib.hid (HP7.out.below hb8)
          have HSM := Lib.hid (ksame_any A8 pA pn.length c8 pc pn w8 rfl (row_ints hrow8) (row_ints (HWAS.out.row HP8.out.st)) (by have := HPF.out; omega))
          clear hrow8 hb8 HDI2
          go_wp2_with fail
          refine HSM.out.mono ?_
          rintro e w9 ⟨rfl, d9, rfl⟩
          go_wp2_with fail
          go_meet
          exact ⟨K, Ms1, cs, p, cap, rfl, by rw [HFRE.out], (HP8.out.mono (by omega)).below (below_drewN (Below.refl _ _) d9)⟩
        · refine id ?_
          obtain ⟨g1, g2, g3, g4⟩ := hfit
          have HD7 := Lib.hid hd7
          have HR7 := Lib.hid hr7
          have HS7 := Lib.hid hs7
          have HOPC7 : Hid (∀ wx, Below w7.heap.size w7 wx → wx.heap[og]? = some (opObj 1 k gen tag by_ s more)) := Lib.hid (fun wx hb => (hd7.below hb).held HOP.out)
          have HROW7 := Lib.hid (HP1.out.row.row hd7)
          have HFEW := Lib.hid HP1.out.few
          have HNIL : Hid (p = none → cs.length = 0 ∧ cap = 0) := Lib.hid (row_none HROW7.out)
          obtain ⟨t0, ht0⟩ : ∃ t0, t0 = ps.getD 0 0 := ⟨_, rfl⟩
          have HT0 : Hid ((CH.mk gen tag 1 b ps).at_ = t0) := Lib.hid ht0.symm
          rw [← ht0]
          obtain ⟨lc, hlc⟩ : ∃ lc, lc = cs.length := ⟨_, rfl⟩
          have HLC := Lib.hid hlc
          have HL400 : Hid (lc ≤ 400) := Lib.hid (by have := HFEW.out; omega)
          rw [← hlc] at HROW7 HNIL ⊢
          have q2 := held_cell (HOPC7.out w7 (Below.refl _ _)) 2
          have q3 := held_cell (HOPC7.out w7 (Below.refl _ _)) 3
          simp at q2 q3
          have g1' : ¬ gen < 1 := by omega
          have g2' : ¬ 3 < gen := by omega
          have g3' : ¬ tag < 0 := by omega
          have g4' : ¬ 200 < tag := by omega
          have hlI : ¬ (9440 : Int) < (b.size : Int) := by omega
          have hrm : ¬ fr < nb := by omega
          have hfw : IntKind.i64.wrap (fr - nb) = fr - nb := by
            rw [IntKind.wrap_i64]
            have h1 := HFEW.out
            have h2 := HNN.out
            have h5 : fr = (N : Int) - 113 - ((secsOf cs).length : Int) := HFRE.out
            have h4 : nb = (needN b.size : Int) := by rw [HNB.out, needI_nat]
            omega
          have HF7 := Lib.hid hfr7
          clear g1 g2 g3 g4 hsz hd7 hr7 hs7 ht0 hlc hroom hfr7
          go_upto_block 3 with fail
          go_cut [16] from 91 to 119 (fun v wx => v = .int .i64 0 ∧ wx = w7)
          case first =>
            as_aux_lemma =>
            refine id ?_
            go_wp2_with (go_at_call 38; refine (HNEED.out _).mono ?_; rintro e w8 ⟨rfl, rfl⟩)
            go_meet
            exact ⟨rfl, rfl⟩
          case rest =>
          obtain ⟨rfl, hw⟩ := hcut
          subst hw
          clear g1' g2' g3' g4' hrm q2 q3
          go_upto_region 29 with fail
          go_cut [8] from 140 to 150 (fun v wx => ∃ (A : Option Addr) (c : Nat), v = .slice A (lc + 1) c ∧ wx.ownsRow wc.heap.size 75 5 (.slice A (lc + 1) c) (lc + 1) (flatH cs ++ (CH.mk gen tag 1 b ps).vals) ∧ Below wc.heap.size wc wx)
          case first =>
            obtain ⟨w7, hw7⟩ : ∃ w7, w7 = wc := ⟨_, rfl⟩
            subst hw7
            obtain ⟨i1, hi1, hy0, hy1, hy2⟩ := info_parts there_info
            have HI := Lib.hid hi1
            obtain ⟨V, hV⟩ : ∃ V, V = putV12 p lc cap t0 og gen tag b := ⟨_, rfl⟩
            have HV := Lib.hid hV
            clear hV hi1
            refine wp_region_phase 140 11 150 1 (ThJ w7 V 1 9 10 lc (lc + 1) (flatH cs) (flatH cs ++ (CH.mk gen tag 1 b ps).vals) #[.int .i64 t0, .int .i64 gen, .int .i64 tag, .int .i64 1, .string b]) (by kernel_rfl) (by kernel_rfl) rfl (by omega) (by kernel_rfl) rfl (by simp) (ThJ.start _ _ _ _ _ _ _ _ _ _) ?hops ?hrest
            case hops =>
              intro o ho L f y w' hF hLo hJ hw hy
              have HJ := Lib.hid hJ
              have HW := Lib.hid hw
              have HY := Lib.hid hy
              clear hJ hw hy
              have HVAL : Hid (∀ j v, j < 11 → j ∈ waitsFor .any _ o → V j = some v → y.tmps[140 + j]?.getD undef = v) := Lib.hid (fun j v hj hjw hv => (HY.out j hj (HW.out j hjw)).trans (HJ.out.vals j v (HW.out j hjw) hv))
              have F8 : y.tmps[8]?.getD undef = .slice p lc cap := (congrArg (fun z => z.getD undef) (hF.2.2 8 (by omega))).trans (by kernel_rfl)
              have F14 : y.tmps[14]?.getD undef = .int .i64 t0 := (congrArg (fun z => z.getD undef) (hF.2.2 14 (by omega))).trans (by kernel_rfl)
              have F11 : y.tmps[11]?.getD undef = .pointer (some ⟨og, 0, none⟩) := (congrArg (fun z => z.getD undef) (hF.2.2 11 (by omega))).trans (by kernel_rfl)
              have F13 : y.tmps[13]?.getD undef = .string b := (congrArg (fun z => z.getD undef) (hF.2.2 13 (by omega))).trans (by kernel_rfl)
              clear hF
              rcases (show o = 0 ∨ o = 1 ∨ o = 2 ∨ o = 3 ∨ o = 4 ∨ o = 5 ∨ o = 6 ∨ o = 7 ∨ o = 8 ∨ o = 9 ∨ o = 10 by omega) with rfl | rfl | rfl | rfl | rfl | rfl | rfl | rfl | rfl | rfl | rfl
              · as_aux_lemma =>
                refine id ?_
                have sl0 : y.tmps[8]?.getD undef = .slice p lc cap := F8
                refine wpOp_value (v := .slice p lc cap) (w' := w') rfl rfl ?_ ⟨_, rfl, HJ.out.val (by decide) (by decide) (by decide) (by rw [HV.out]; rfl)⟩
                go_simp
              · as_aux_lemma =>
                refine id ?_
                have sl0 : y.tmps[140]?.getD undef = .slice p lc cap := HVAL.out 0 _ (by omega) (of_decide_eq_true (by kernel_rfl)) (by rw [HV.out]; rfl)
                have kk := HJ.out
                have lE : L 10 = false := by
                  cases h : L 10 with
                  | false => rfl
                  | true => exact absurd (kk.c1 h) (by rw [hLo]; simp)
                obtain ⟨v', w'', hrun, hown, hbel, -⟩ := append_there (w := w') (B := w'.heap.size) HI.out hy0 hy1 hy2 (.slice none 0 0) 0 [] (World.ownsRow_nil _ _ _ _) p lc cap cs HLC.out.symm (fun h => HNIL.out h) (fun a ha j u hu => there_at (row_below HROW7.out kk.below) ha hu) (by have := HL400.out; omega) (Nat.le_refl _)
                refine wpOp_value (v := v') (w' := w'') rfl rfl (exec_append rfl rfl (by simpa [Act.eval] using sl0) hrun) ⟨_, rfl, kk.one (by rw [HV.out]; rfl) (by decide) (by decide) lE ?_ hbel⟩
                rw [Nat.zero_add, List.nil_append] at hown
                exact hown
              · as_aux_lemma =>
                refine id ?_
                have sl0 : y.tmps[14]?.getD undef = .int .i64 t0 := F14
                refine wpOp_value (v := .int .i64 t0) (w' := w') rfl rfl ?_ ⟨_, rfl, HJ.out.val (by decide) (by decide) (by decide) (by rw [HV.out]; rfl)⟩
                go_simp
              · as_aux_lemma =>
                refine id ?_
                have sl0 : y.tmps[11]?.getD undef = .pointer (some ⟨og, 0, none⟩) := F11
                refine wpOp_value (v := .pointer (some ⟨og, 2, none⟩)) (w' := w') rfl rfl ?_ ⟨_, rfl, HJ.out.val (by decide) (by decide) (by decide) (by rw [HV.out]; rfl)⟩
                go_simp
              · as_aux_lemma =>
                refine id ?_
                have sl0 : y.tmps[143]?.getD undef = .pointer (some ⟨og, 2, none⟩) := HVAL.out 3 _ (by omega) (of_decide_eq_true (by kernel_rfl)) (by rw [HV.out]; rfl)
                have q2 := held_cell (HOPC7.out w' HJ.out.below) 2
                simp at q2
                refine wpOp_value (v := .int .i64 gen) (w' := w') rfl rfl ?_ ⟨_, rfl, HJ.out.val (by decide) (by decide) (by decide) (by rw [HV.out]; rfl)⟩
                go_simp
              · as_aux_lemma =>
                refine id ?_
                have sl0 : y.tmps[11]?.getD undef = .pointer (some ⟨og, 0, none⟩) := F11
                refine wpOp_value (v := .pointer (some ⟨og, 3, none⟩)) (w' := w') rfl rfl ?_ ⟨_, rfl, HJ.out.val (by decide) (by decide) (by decide) (by rw [HV.out]; rfl)⟩
                go_simp
              · as_aux_lemma =>
                refine id ?_
                have sl0 : y.tmps[145]?.getD undef = .pointer (some ⟨og, 3, none⟩) := HVAL.out 5 _ (by omega) (of_decide_eq_true (by kernel_rfl)) (by rw [HV.out]; rfl)
                have q3 := held_cell (HOPC7.out w' HJ.out.below) 3
                simp at q3
                refine wpOp_value (v := .int .i64 tag) (w' := w') rfl rfl ?_ ⟨_, rfl, HJ.out.val (by decide) (by decide) (by decide) (by rw [HV.out]; rfl)⟩
                go_simp
              · as_aux_lemma =>
                refine id ?_
                have sl0 : y.tmps[13]?.getD undef = .string b := F13
                refine wpOp_value (v := .string b) (w' := w') rfl rfl ?_ ⟨_, rfl, HJ.out.val (by decide) (by decide) (by decide) (by rw [HV.out]; rfl)⟩
                go_simp
              · as_aux_lemma =>
                refine id ?_
                have sl0 : y.tmps[142]?.getD undef = .int .i64 t0 := HVAL.out 2 _ (by omega) (of_decide_eq_true (by kernel_rfl)) (by rw [HV.out]; rfl)
                have sl1 : y.tmps[144]?.getD undef = .int .i64 gen := HVAL.out 4 _ (by omega) (of_decide_eq_true (by kernel_rfl)) (by rw [HV.out]; rfl)
                have sl2 : y.tmps[146]?.getD undef = .int .i64 tag := HVAL.out 6 _ (by omega) (of_decide_eq_true (by kernel_rfl)) (by rw [HV.out]; rfl)
                have sl3 : y.tmps[147]?.getD undef = .string b := HVAL.out 7 _ (by omega) (of_decide_eq_true (by kernel_rfl)) (by rw [HV.out]; rfl)
                refine wpOp_value (v := .agg #[.int .i64 t0, .int .i64 gen, .int .i64 tag, .int .i64 1, .string b]) (w' := w') rfl rfl ?_ ⟨_, rfl, HJ.out.val (by decide) (by decide) (by decide) (by rw [HV.out]; rfl)⟩
                go_simp
              · have sl0 : y.tmps[148]?.getD undef = .agg #[.int .i64 t0, .int .i64 gen, .int .i64 tag, .int .i64 1, .string b] := HVAL.out 8 _ (by omega) (of_decide_eq_true (by kernel_rfl)) (by rw [HV.out]; rfl)
                have kk := HJ.out
                have lE : L 10 = false := by
                  cases h : L 10 with
                  | false => rfl
                  | true => exact absurd (kk.c9 (by decide) h) (by rw [hLo]; simp)
                refine wpOp_value (v := .slice (some ⟨w'.heap.size, 0, none⟩) 1 1) (w' := w'.alloc (.cells #[.int .i64 t0, .int .i64 gen, .int .i64 tag, .int .i64 1, .string b] 75)) rfl rfl ?_ ⟨_, rfl, kk.made (by rw [HV.out]; rfl) (by decide) (by decide) lE⟩
                go_simp
              · as_aux_lemma =>
                refine id ?_
                have l1 : L 1 = true := HW.out 1 (of_decide_eq_true (by kernel_rfl))
                have l9 : L 9 = true := HW.out 9 (of_decide_eq_true (by kernel_rfl))
                have kk := HJ.out
                obtain ⟨b9, e9, hb9, hs9, hn9⟩ := kk.r9 l9 hLo
                have hr1 := kk.r1 l1 hLo
                have sl1 : y.tmps[141]?.getD undef = f 1 := HY.out 1 (by omega) l1
                have sl2 : y.tmps[149]?.getD undef = .slice (some ⟨b9, 0, none⟩) 1 1 := (HY.out 9 (by omega) l9).trans e9
                obtain ⟨v', w'', hrun, hown, hbel, -⟩ := append_there (w := w') (B := w7.heap.size) HI.out hy0 hy1 hy2 (f 1) lc _ hr1 (some ⟨b9, 0, none⟩) 1 1 [CH.mk gen tag 1 b ps] rfl (fun h => by cases h) (fun a ha j u hu => by
                  cases ha
                  rw [Go.WideShapes.add_plain, Nat.zero_add]
                  refine (hb9.cell j).trans ?_
                  have e : (flatH [CH.mk gen tag 1 b ps]) = [.int .i64 t0, .int .i64 gen, .int .i64 tag, .int .i64 1, .string b] := by have h := HT0.out; show [Value.int .i64 (CH.mk gen tag 1 b ps).at_, .int .i64 gen, .int .i64 tag, .int .i64 1, .string b] = _; rw [h]
                  rw [e] at hu
                  simpa using hu) (by have := HL400.out; omega) kk.below.size
                refine wpOp_value (v := v') (w' := w'') rfl rfl (exec_append rfl (by simpa [Act.eval] using sl1) (by simpa [Act.eval] using sl2) hrun) ⟨_, rfl, kk.both (by rw [HV.out]; rfl) l1 (fun _ => l9) ?_ hbel⟩
                have e : flatH [CH.mk gen tag 1 b ps] = (CH.mk gen tag 1 b ps).vals := by simp [flatH]
                rw [e] at hown
                exact hown
            case hrest =>
              intro L f w' hL hTJ
              have h10 := hTJ.rE (hL 10 (by omega))
              have HBEL := Lib.hid hTJ.below
              obtain ⟨pA2, pc2, hf, -⟩ := row_slice' h10
              rw [hf] at h10
              have HR := Lib.hid h10
              clear hTJ hL h10
              refine wpOps_last (j := 10) (d := 8) rfl (Nat.le_of_ble_eq_true (by kernel_rfl)) (by omega) hf ?_
              clear hf
              rename_i hJ hMet
              first
              | refine hMet _ _ (Met.intro (hJ _ _ ?_))
              | refine hJ _ _ (Met.intro (hMet _ _ ?_))
              refine ⟨.slice pA2 (lc + 1) pc2, f 0, f 1, f 2, f 3, f 4, f 5, f 6, f 7, f 8, f 9, f 10, ⟨pA2, pc2, rfl, HR.out, HBEL.out⟩, ?_⟩
              kernel_rfl
          case rest =>
          obtain ⟨A8, c8, rfl, hr8, hb8⟩ := hcut
          have HR8 := Lib.hid hr8
          have HB8 := Lib.hid hb8
          clear hr8 hb8
          as_aux_lemma =>
          refine id ?_
          go_wp2_with (go_at_call 38; refine (HNEED.out _).mono ?_; rintro e w8 ⟨rfl, rfl⟩)
          go_meet
          obtain ⟨Ms9, z1, z2, z3⟩ := HD7.out.holdRow HB8.out HR8.out
          have hll : (cs ++ [CH.mk gen tag 1 b ps]).length = lc + 1 := by rw [List.length_append, ← HLC.out]; rfl
          refine ⟨K', Ms9, cs ++ [CH.mk gen tag 1 b ps], A8, c8, by rw [hll], by rw [HF7.out], z1.mono (by omega), HR7.out, HS7.out, ?_⟩
          rw [hll, flatH_snoc]
          exact z2.low HD7.out.st.at0.size
      by_cases k3 : kd = 3
      · refine id ?_
        subst k3
        have hne : cs ≠ [] := fun e => hcon ⟨by omega, e⟩
        have HOPC : Hid (∀ wx, Below w4.heap.size w4 wx → wx.heap[og]? = some (opObj 3 k gen tag by_ s more)) := Lib.hid (fun wx hb => (HP1.out.below hb).st.held HOP.out)
        have HFEW := Lib.hid HP1.out.few
        obtain ⟨lc, hlc⟩ : ∃ lc, lc = cs.length := ⟨_, rfl⟩
        have hl0 : 0 < lc := by
          rw [hlc]
          rcases cs with _ | ⟨x, r⟩
          · exact absurd rfl hne
          · simp
        have hl4 : lc ≤ 400 := by have := HFEW.out; omega
        have hlz : ¬ (lc : Int) = 0 := by omega
        have hlI : (0 : Int) < (lc : Int) ∧ (lc : Int) ≤ 400 := by omega
        obtain ⟨hlI0, hlI1⟩ := hlI
        have hkI := HD1.out.kin
        have hbI := HD1.out.by_in
        simp only at hkI hbI
        have HBI : Hid (I64 by_) := Lib.hid (by unfold I64; exact hbI)
        obtain ⟨r1, hr1⟩ : ∃ r1, r1 = k.tmod (lc : Int) := ⟨_, rfl⟩
        have hr1b : -(lc : Int) < r1 ∧ r1 < (lc : Int) := by
          rw [hr1]
          exact ⟨by have := Int.lt_tmod_of_pos k hlI0; omega, Int.tmod_lt_of_pos k hlI0⟩
        obtain ⟨jj, hjj⟩ : ∃ jj : Nat, (jj : Int) = (r1 + (lc : Int)) % (lc : Int) := ⟨((r1 + (lc : Int)) % (lc : Int)).toNat, by rw [Int.toNat_of_nonneg (Int.emod_nonneg _ hlz)]⟩
        have hjl : jj < lc := by have := Int.emod_lt_of_pos (r1 + (lc : Int)) hlI0; omega
        have m1 : k.tmod (lc : Int) = r1 := hr1.symm
        have m2 : IntKind.i64.wrap r1 = r1 := by rw [IntKind.wrap_i64]; omega
        have m3 : IntKind.i64.wrap (r1 + (lc : Int)) = r1 + (lc : Int) := by rw [IntKind.wrap_i64]; omega
        have m4 : (r1 + (lc : Int)).tmod (lc : Int) = (jj : Int) := by rw [Int.tmod_eq_emod_of_nonneg (by omega), hjj]
        have m4' : (r1 + (lc : Int)) % (lc : Int) = (jj : Int) := hjj.symm
        have m5 : IntKind.i64.wrap (jj : Int) = (jj : Int) := by rw [IntKind.wrap_i64]; omega
        have hjI2 : (jj : Int) < (lc : Int) := by omega
        obtain ⟨c1, hc1⟩ : ∃ c1, cs[jj]? = some c1 := ⟨_, List.getElem?_eq_getElem (by rw [← hlc]; exact hjl)⟩
        obtain ⟨gr, hgr, hgb, hgl, hcells⟩ := there_cells (HP1.out.row.row HP1.out.st) (by omega)
        subst hgr
        have hth := hcells jj c1 hc1
        have y0 := hth.c0
        have y1 := hth.c1
        have y2 := hth.c2
        have y3 := hth.c3
        have y4 := hth.c4
        have HC1 := Lib.hid hc1
        have HLC := Lib.hid hlc
        have HGL := Lib.hid hgl
        have HJL := Lib.hid hjl
        obtain ⟨at0, hat⟩ : ∃ at0, at0 = c1.at_ := ⟨_, rfl⟩
        rw [← hat] at y0
        have HAT := Lib.hid hat
        rw [← hlc]
        clear hlc hne hc1 hcells hth hgb hgl hjl hr1 hjj hr1b hat hkI hbI x2 x3 x5 x6
        go_upto_region 36 with fail
        obtain ⟨w5, hw5⟩ : ∃ w5, w5 = w4.alloc (.cells #[.int .i64 at0, .int .i64 c1.gen, .int .i64 c1.tag, .int .i64 c1.refs, .string c1.data] 75) := ⟨_, rfl⟩
        rw [← hw5]
        obtain ⟨xg, hxg⟩ : ∃ xg, xg = w4.heap.size := ⟨_, rfl⟩
        rw [← hxg]
        have hb5 : Below w4.heap.size w4 w5 := by rw [hw5]; exact (Below.refl _ _).alloc (Nat.le_refl _) _
        have hxo : w5.heap[xg]? = some (.cells #[.int .i64 at0, .int .i64 c1.gen, .int .i64 c1.tag, .int .i64 c1.refs, .string c1.data] 75 (0, 0)) := by rw [hw5, hxg]; exact heap_alloc_new w4 _
        obtain ⟨Ms2, hMs2⟩ : ∃ Ms2, Ms2 = MK.held xg (.cells #[.int .i64 at0, .int .i64 c1.gen, .int .i64 c1.tag, .int .i64 c1.refs, .string c1.data] 75 (0, 0)) :: Ms1 := ⟨_, rfl⟩
        have HX2 : Hid (MK.held xg (.cells #[.int .i64 at0, .int .i64 c1.gen, .int .i64 c1.tag, .int .i64 c1.refs, .string c1.data] 75 (0, 0)) ∈ Ms2) := Lib.hid (by rw [hMs2]; simp)
        have HSUB2 : Hid (∀ M ∈ Ms1, M ∈ Ms2) := Lib.hid (by rw [hMs2]; exact fun M h => List.mem_cons_of_mem _ h)
        have HP2 : Hid (Pl12 w w5 g gd (1 + 41 * j) N h K Ms2 (cs.take jj ++ c1 :: cs.drop (jj + 1)) (some ⟨gr, 0, none⟩) cap) := Lib.hid (by
          rw [← (take_mid HC1.out).1]
          exact ⟨by rw [hMs2]; exact HP1.out.st.hold hb5 (Nat.le_of_eq hxg.symm) hxo, HP1.out.run, HP1.out.on, HP1.out.row.more HSUB2.out⟩)
        have HB5 := Lib.hid hb5
        have HXG : Hid (gr < xg ∧ w.heap.size ≤ xg) := Lib.hid ⟨by rw [hxg]; exact HGL.out, by rw [hxg]; exact HP1.out.base.size⟩
        have hop5 := HOPC.out w5 hb5
        have x0 := held_cell hop5 0
        have x4 := held_cell hop5 4
        simp at x0 x4
        have u0 := held_cell hxo 0
        simp at u0
        clear hw5 hxg hb5 hxo hMs2 hop5 y0 y1 y2 y3 y4 x1 m1 m2 m3 m4 m4' m5
        have HDR := Lib.hid (pl_drop HP2.out)
        rw [← HAT.out] at HDR
        go_wp2_with fail
        refine HDR.out.mono ?_
        rintro e w6 ⟨rfl, K6, hd6, hr6, hs6⟩
        have HD6 := Lib.hid hd6
        have HR6 := Lib.hid hr6
        have HS6 := Lib.hid hs6
        have u4 := held_cell (hd6.held HX2.out) 4
        simp at u4
        have HON := Lib.hid (HP1.out.on.on c1 (List.mem_of_getElem? HC1.out))
        have HNEED := Lib.hid (fun w1 => need12_any (c1.data.size : Int) w1 (by have := HON.out.few; omega))
        obtain ⟨nb, hnb⟩ : ∃ nb, nb = needI c1.data.size := ⟨_, rfl⟩
        obtain ⟨fr, hfr⟩ : ∃ fr, fr = freeI N cs := ⟨_, rfl⟩
        rw [← hnb] at HNEED
        rw [← hfr]
        have HFRE : Hid (freeI N (cs.take jj ++ cs.drop (jj + 1)) = fr + nb) := Lib.hid (by
          rw [free_drop (c := c1) HON.out.len, ← (take_mid HC1.out).1, ← hfr, ← hnb])
        have hfw : IntKind.i64.wrap (fr + nb) = fr + nb := by
          rw [IntKind.wrap_i64]
          have h1 := HFEW.out
          have h2 := HNN.out
          have h3 := needN_le HON.out.few
          have h4 : nb = (needN c1.data.size : Int) := by rw [hnb, needI_nat]
          have h5 : fr = (N : Int) - 113 - ((secsOf cs).length : Int) := hfr
          omega
        clear hd6 hr6 hs6 hnb hfr u0 x0 x4 HDR
        go_upto_region 40 with (go_at_call 38; refine (HNEED.out _).mono ?_; rintro e w7 ⟨rfl, rfl⟩)
        have HROW6 := Lib.hid ((HP1.out.row.more HSUB2.out).row HD6.out)
        rw [← HLC.out] at HROW6
        have HL400 : Hid (lc ≤ 400) := Lib.hid hl4
        have HTL : Hid ((cs.take jj).length = jj) := Lib.hid (by rw [List.length_take, ← HLC.out]; have := HJL.out; omega)
        have hjc : (jj : Int) ≤ (cap : Int) := by
          obtain ⟨p', c', e1, h2, _⟩ := row_slice HROW6.out
          injection e1 with _ _ e3
          subst e3
          have := HJL.out
          omega
        have hjc1 : ((jj : Int) + 1) ≤ (lc : Int) := by have := HJL.out; omega
        have hlcc : (lc : Int) ≤ (cap : Int) := by
          obtain ⟨p', c', e1, h2, _⟩ := row_slice HROW6.out
          injection e1 with _ _ e3
          subst e3
          omega
        have hj1w : IntKind.i64.wrap ((jj : Int) + 1) = (jj : Int) + 1 := by rw [IntKind.wrap_i64]; omega
        clear u4 hfw
        go_cut [8] from 191 to 199 (fun v wx => ∃ (A : Option Addr) (c : Nat), v = .slice A (jj + (lc - (jj + 1))) c ∧ wx.ownsRow w7.heap.size 75 5 (.slice A (jj + (lc - (jj + 1))) c) (jj + (lc - (jj + 1))) (flatH (cs.take jj) ++ flatH (cs.drop (jj + 1))) ∧ Below w7.heap.size w7 wx)
        case first =>
          obtain ⟨i1, hi1, hy0, hy1, hy2⟩ := info_parts there_info
          have HI := Lib.hid hi1
          obtain ⟨V, hV⟩ : ∃ V, V = cutV12 (some ⟨gr, 0, none⟩) lc cap jj := ⟨_, rfl⟩
          have HV := Lib.hid hV
          clear hV hi1
          refine wp_region_phase 191 9 199 1 (ThJ w7 V 3 100 8 jj (jj + (lc - (jj + 1))) (flatH (cs.take jj)) (flatH (cs.take jj) ++ flatH (cs.drop (jj + 1))) #[]) (by kernel_rfl) (by kernel_rfl) rfl (by omega) (by kernel_rfl) rfl (by simp) (ThJ.start _ _ _ _ _ _ _ _ _ _) ?hops ?hrest
          case hops =>
            intro o ho L f y w' hF hLo hJ hw hy
            have HJ := Lib.hid hJ
            have HW := Lib.hid hw
            have HY := Lib.hid hy
            clear hJ hw hy
            have HVAL : Hid (∀ j v, j < 9 → j ∈ waitsFor .any _ o → V j = some v → y.tmps[191 + j]?.getD undef = v) := Lib.hid (fun j v hj hjw hv => (HY.out j hj (HW.out j hjw)).trans (HJ.out.vals j v (HW.out j hjw) hv))
            have F8 : y.tmps[8]?.getD undef = .slice (some ⟨gr, 0, none⟩) lc cap := (congrArg (fun z => z.getD undef) (hF.2.2 8 (by omega))).trans (by kernel_rfl)
            have F17 : y.tmps[17]?.getD undef = .int .i64 jj := (congrArg (fun z => z.getD undef) (hF.2.2 17 (by omega))).trans (by kernel_rfl)
            clear hF
            as_aux_lemma =>
            refine id ?_
            rcases (show o = 0 ∨ o = 1 ∨ o = 2 ∨ o = 3 ∨ o = 4 ∨ o = 5 ∨ o = 6 ∨ o = 7 ∨ o = 8 by omega) with rfl | rfl | rfl | rfl | rfl | rfl | rfl | rfl | rfl
            · have sl0 : y.tmps[8]?.getD undef = .slice (some ⟨gr, 0, none⟩) lc cap := F8
              refine wpOp_value (v := .slice (some ⟨gr, 0, none⟩) lc cap) (w' := w') rfl rfl ?_ ⟨_, rfl, HJ.out.val (by decide) (by decide) (by decide) (by rw [HV.out]; rfl)⟩
              go_simp
            · have sl0 : y.tmps[17]?.getD undef = .int .i64 jj := F17
              refine wpOp_value (v := .int .i64 jj) (w' := w') rfl rfl ?_ ⟨_, rfl, HJ.out.val (by decide) (by decide) (by decide) (by rw [HV.out]; rfl)⟩
              go_simp
            · have sl0 : y.tmps[191]?.getD undef = .slice (some ⟨gr, 0, none⟩) lc cap := HVAL.out 0 _ (by omega) (of_decide_eq_true (by kernel_rfl)) (by rw [HV.out]; rfl)
              have sl1 : y.tmps[192]?.getD undef = .int .i64 jj := HVAL.out 1 _ (by omega) (of_decide_eq_true (by kernel_rfl)) (by rw [HV.out]; rfl)
              refine wpOp_value (v := .slice (some ⟨gr, 0, none⟩) jj cap) (w' := w') rfl rfl ?_ ⟨_, rfl, HJ.out.val (by decide) (by decide) (by decide) (by rw [HV.out]; rfl)⟩
              go_simp
            · have sl0 : y.tmps[193]?.getD undef = .slice (some ⟨gr, 0, none⟩) jj cap := HVAL.out 2 _ (by omega) (of_decide_eq_true (by kernel_rfl)) (by rw [HV.out]; rfl)
              have kk := HJ.out
              have lE : L 8 = false := by
                cases h : L 8 with
                | false => rfl
                | true => exact absurd (kk.c1 h) (by rw [hLo]; simp)
              obtain ⟨v', w'', hrun, hown, hbel, -⟩ := append_there (w := w') (B := w'.heap.size) HI.out hy0 hy1 hy2 (.slice none 0 0) 0 [] (World.ownsRow_nil _ _ _ _) (some ⟨gr, 0, none⟩) jj cap (cs.take jj) HTL.out (fun h => by cases h) (fun a ha j u hu => there_take (row_below HROW6.out kk.below) (by have := HJL.out; have := HLC.out; omega) ha hu) (by have := HJL.out; have := HL400.out; omega) (Nat.le_refl _)
              refine wpOp_value (v := v') (w' := w'') rfl rfl (exec_append rfl rfl (by simpa [Act.eval] using sl0) hrun) ⟨_, rfl, kk.one (by rw [HV.out]; rfl) (by decide) (by decide) lE ?_ hbel⟩
              rw [Nat.zero_add, List.nil_append] at hown
              exact hown
            · have sl0 : y.tmps[8]?.getD undef = .slice (some ⟨gr, 0, none⟩) lc cap := F8
              refine wpOp_value (v := .slice (some ⟨gr, 0, none⟩) lc cap) (w' := w') rfl rfl ?_ ⟨_, rfl, HJ.out.val (by decide) (by decide) (by decide) (by rw [HV.out]; rfl)⟩
              go_simp
            · have sl0 : y.tmps[17]?.getD undef = .int .i64 jj := F17
              refine wpOp_value (v := .int .i64 jj) (w' := w') rfl rfl ?_ ⟨_, rfl, HJ.out.val (by decide) (by decide) (by decide) (by rw [HV.out]; rfl)⟩
              go_simp
            · have sl0 : y.tmps[196]?.getD undef = .int .i64 jj := HVAL.out 5 _ (by omega) (of_decide_eq_true (by kernel_rfl)) (by rw [HV.out]; rfl)
              refine wpOp_value (v := .int .i64 ((jj : Int) + 1)) (w' := w') rfl rfl ?_ ⟨_, rfl, HJ.out.val (by decide) (by decide) (by decide) (by rw [HV.out]; rfl)⟩
              go_simp
            · have sl0 : y.tmps[195]?.getD undef = .slice (some ⟨gr, 0, none⟩) lc cap := HVAL.out 4 _ (by omega) (of_decide_eq_true (by kernel_rfl)) (by rw [HV.out]; rfl)
              have sl1 : y.tmps[197]?.getD undef = .int .i64 ((jj : Int) + 1) := HVAL.out 6 _ (by omega) (of_decide_eq_true (by kernel_rfl)) (by rw [HV.out]; rfl)
              refine wpOp_value (v := sliced (some ⟨gr, 0, none⟩) (jj + 1) lc cap 5) (w' := w') rfl rfl ?_ ⟨_, rfl, HJ.out.val (by decide) (by decide) (by decide) (by rw [HV.out]; rfl)⟩
              go_simp
              intro hneg
              omega
            · have l1 : L 3 = true := HW.out 3 (of_decide_eq_true (by kernel_rfl))
              have kk := HJ.out
              have hr1 := kk.r1 l1 hLo
              have sl1 : y.tmps[194]?.getD undef = f 3 := HY.out 3 (by omega) l1
              have sl2 : y.tmps[198]?.getD undef = sliced (some ⟨gr, 0, none⟩) (jj + 1) lc cap 5 := HVAL.out 7 _ (by omega) (of_decide_eq_true (by kernel_rfl)) (by rw [HV.out]; rfl)
              obtain ⟨v', w'', hrun, hown, hbel, -⟩ := append_there (w := w') (B := w7.heap.size) HI.out hy0 hy1 hy2 (f 3) jj _ hr1 (if cap = jj + 1 then (some ⟨gr, 0, none⟩) else Option.map (fun a : Addr => a.add ((jj + 1) * 5)) (some ⟨gr, 0, none⟩)) (lc - (jj + 1)) (cap - (jj + 1)) (cs.drop (jj + 1)) (by rw [List.length_drop, ← HLC.out]) (fun h => by split at h <;> cases h) (fun a ha j u hu => there_drop (row_below HROW6.out kk.below) HLC.out.symm (by have := HJL.out; omega) ha hu) (by have := HJL.out; have := HL400.out; omega) kk.below.size
              exact wpOp_value (v := v') (w' := w'') rfl rfl (exec_append rfl (by simpa [Act.eval] using sl1) (by simpa [Act.eval, sliced] using sl2) hrun) ⟨_, rfl, kk.both (by rw [HV.out]; rfl) l1 (fun h => absurd h (by decide)) hown hbel⟩
          case hrest =>
            intro L f w' hL hTJ
            have h10 := hTJ.rE (hL 8 (by omega))
            have HBEL := Lib.hid hTJ.below
            obtain ⟨pA2, pc2, hf, -⟩ := row_slice' h10
            rw [hf] at h10
            have HR := Lib.hid h10
            clear hTJ hL h10
            refine wpOps_last (j := 8) (d := 8) rfl (Nat.le_of_ble_eq_true (by kernel_rfl)) (by omega) hf ?_
            clear hf
            rename_i hJ hMet
            first
            | refine hMet _ _ (Met.intro (hJ _ _ ?_))
            | refine hJ _ _ (Met.intro (hMet _ _ ?_))
            refine ⟨.slice pA2 (jj + (lc - (jj + 1))) pc2, f 0, f 1, f 2, f 3, f 4, f 5, f 6, f 7, f 8, ⟨pA2, pc2, rfl, HR.out, HBEL.out⟩, ?_⟩
            kernel_rfl
        case rest =>
        obtain ⟨A8, c8, rfl, hr8, hb8⟩ := hcut
        have HR8 := Lib.hid hr8
        have HB8 := Lib.hid hb8
        clear hr8 hb8
        as_aux_lemma =>
        refine id ?_
        go_wp2_with fail
        go_meet
        obtain ⟨Ms9, z1, z2, z3⟩ := HD6.out.holdRow HB8.out HR8.out
        have hll : (cs.take jj ++ cs.drop (jj + 1)).length = jj + (lc - (jj + 1)) := by rw [List.length_append, HTL.out, List.length_drop, ← HLC.out]
        refine ⟨K6, Ms9, cs.take jj ++ cs.drop (jj + 1), A8, c8, by rw [hll], by rw [HFRE.out], z1.mono (by omega), HR6.out, HS6.out, ?_⟩
        rw [hll, flatH_app]
        exact z2.low HD6.out.st.at0.size
      by_cases k2 : kd = 2
      · as_aux_lemma =>
        refine id ?_
        subst k2
        have hne : cs ≠ [] := fun e => hcon ⟨by omega, e⟩
        have HOPC : Hid (∀ wx, Below w4.heap.size w4 wx → wx.heap[og]? = some (opObj 2 k gen tag by_ s more)) := Lib.hid (fun wx hb => (HP1.out.below hb).st.held HOP.out)
        have HFEW := Lib.hid HP1.out.few
        obtain ⟨lc, hlc⟩ : ∃ lc, lc = cs.length := ⟨_, rfl⟩
        have hl0 : 0 < lc := by
          rw [hlc]
          rcases cs with _ | ⟨x, r⟩
          · exact absurd rfl hne
          · simp
        have hl4 : lc ≤ 400 := by have := HFEW.out; omega
        have hlz : ¬ (lc : Int) = 0 := by omega
        have hlI : (0 : Int) < (lc : Int) ∧ (lc : Int) ≤ 400 := by omega
        obtain ⟨hlI0, hlI1⟩ := hlI
        have hkI := HD1.out.kin
        have hbI := HD1.out.by_in
        simp only at hkI hbI
        have HBI : Hid (I64 by_) := Lib.hid (by unfold I64; exact hbI)
        obtain ⟨r1, hr1⟩ : ∃ r1, r1 = k.tmod (lc : Int) := ⟨_, rfl⟩
        have hr1b : -(lc : Int) < r1 ∧ r1 < (lc : Int) := by
          rw [hr1]
          exact ⟨by have := Int.lt_tmod_of_pos k hlI0; omega, Int.tmod_lt_of_pos k hlI0⟩
        obtain ⟨jj, hjj⟩ : ∃ jj : Nat, (jj : Int) = (r1 + (lc : Int)) % (lc : Int) := ⟨((r1 + (lc : Int)) % (lc : Int)).toNat, by rw [Int.toNat_of_nonneg (Int.emod_nonneg _ hlz)]⟩
        have hjl : jj < lc := by have := Int.emod_lt_of_pos (r1 + (lc : Int)) hlI0; omega
        have m1 : k.tmod (lc : Int) = r1 := hr1.symm
        have m2 : IntKind.i64.wrap r1 = r1 := by rw [IntKind.wrap_i64]; omega
        have m3 : IntKind.i64.wrap (r1 + (lc : Int)) = r1 + (lc : Int) := by rw [IntKind.wrap_i64]; omega
        have m4 : (r1 + (lc : Int)).tmod (lc : Int) = (jj : Int) := by rw [Int.tmod_eq_emod_of_nonneg (by omega), hjj]
        have m4' : (r1 + (lc : Int)) % (lc : Int) = (jj : Int) := hjj.symm
        have m5 : IntKind.i64.wrap (jj : Int) = (jj : Int) := by rw [IntKind.wrap_i64]; omega
        have hjI2 : (jj : Int) < (lc : Int) := by omega
        obtain ⟨c1, hc1⟩ : ∃ c1, cs[jj]? = some c1 := ⟨_, List.getElem?_eq_getElem (by rw [← hlc]; exact hjl)⟩
        obtain ⟨gr, hgr, hgb, hgl, hcells⟩ := there_cells (HP1.out.row.row HP1.out.st) (by omega)
        subst hgr
        have hth := hcells jj c1 hc1
        have y0 := hth.c0
        have y1 := hth.c1
        have y2 := hth.c2
        have y3 := hth.c3
        have y4 := hth.c4
        have HC1 := Lib.hid hc1
        have HLC := Lib.hid hlc
        have HGL := Lib.hid hgl
        have HJL := Lib.hid hjl
        obtain ⟨at0, hat⟩ : ∃ at0, at0 = c1.at_ := ⟨_, rfl⟩
        rw [← hat] at y0
        have HAT := Lib.hid hat
        rw [← hlc]
        clear hlc hne hc1 hcells hth hgb hgl hjl hr1 hjj hr1b hat hkI hbI x2 x3 x5 x6
        go_upto_region 36 with fail
        obtain ⟨w5, hw5⟩ : ∃ w5, w5 = w4.alloc (.cells #[.int .i64 at0, .int .i64 c1.gen, .int .i64 c1.tag, .int .i64 c1.refs, .string c1.data] 75) := ⟨_, rfl⟩
        rw [← hw5]
        obtain ⟨xg, hxg⟩ : ∃ xg, xg = w4.heap.size := ⟨_, rfl⟩
        rw [← hxg]
        have hb5 : Below w4.heap.size w4 w5 := by rw [hw5]; exact (Below.refl _ _).alloc (Nat.le_refl _) _
        have hxo : w5.heap[xg]? = some (.cells #[.int .i64 at0, .int .i64 c1.gen, .int .i64 c1.tag, .int .i64 c1.refs, .string c1.data] 75 (0, 0)) := by rw [hw5, hxg]; exact heap_alloc_new w4 _
        obtain ⟨Ms2, hMs2⟩ : ∃ Ms2, Ms2 = MK.held xg (.cells #[.int .i64 at0, .int .i64 c1.gen, .int .i64 c1.tag, .int .i64 c1.refs, .string c1.data] 75 (0, 0)) :: Ms1 := ⟨_, rfl⟩
        have HX2 : Hid (MK.held xg (.cells #[.int .i64 at0, .int .i64 c1.gen, .int .i64 c1.tag, .int .i64 c1.refs, .string c1.data] 75 (0, 0)) ∈ Ms2) := Lib.hid (by rw [hMs2]; simp)
        have HSUB2 : Hid (∀ M ∈ Ms1, M ∈ Ms2) := Lib.hid (by rw [hMs2]; exact fun M h => List.mem_cons_of_mem _ h)
        have HP2 : Hid (Pl12 w w5 g gd (1 + 41 * j) N h K Ms2 (cs.take jj ++ c1 :: cs.drop (jj + 1)) (some ⟨gr, 0, none⟩) cap) := Lib.hid (by
          rw [← (take_mid HC1.out).1]
          exact ⟨by rw [hMs2]; exact HP1.out.st.hold hb5 (Nat.le_of_eq hxg.symm) hxo, HP1.out.run, HP1.out.on, HP1.out.row.more HSUB2.out⟩)
        have HB5 := Lib.hid hb5
        have HXG : Hid (gr < xg ∧ w.heap.size ≤ xg) := Lib.hid ⟨by rw [hxg]; exact HGL.out, by rw [hxg]; exact HP1.out.base.size⟩
        have hop5 := HOPC.out w5 hb5
        have x0 := held_cell hop5 0
        have x4 := held_cell hop5 4
        simp at x0 x4
        have u0 := held_cell hxo 0
        simp at u0
        clear hw5 hxg hb5 hxo hMs2 hop5 y0 y1 y2 y3 y4 x1 m1 m2 m3 m4 m4' m5
        obtain ⟨sm, hsm⟩ : ∃ sm, sm = c1.refs + by_ := ⟨_, rfl⟩
        have HON := Lib.hid (HP1.out.on.on c1 (List.mem_of_getElem? HC1.out))
        by_cases hno : by_ < -c1.refs ∨ 60000 - c1.refs < by_
        · as_aux_lemma =>
          refine id ?_
          have HRF := Lib.hid (pl_refs_no HP2.out (by have := HM40.out; omega) HBI.out hno)
          rw [← HAT.out] at HRF
          have HNO := Lib.hid hno
          clear hno hsm
          go_wp2_with fail
          refine HRF.out.mono ?_
          rintro e w6 ⟨rfl, hp6⟩
          have HP6 := Lib.hid hp6
          have hop6 := hp6.st.held (HSUB2.out _ HOP.out)
          have x4 := held_cell hop6 4
          simp at x4
          have u3 := held_cell (hp6.st.held HX2.out) 3
          simp at u3
          obtain ⟨rf, hrf⟩ : ∃ rf, rf = c1.refs := ⟨_, rfl⟩
          rw [← hrf] at u3
          have hrfb : 0 ≤ rf ∧ rf ≤ 60000 := by rw [hrf]; exact HON.out.used
          have hno := HNO.out
          rw [← hrf] at hno
          obtain ⟨rf0, rf1⟩ := hrfb
          clear hop6 u0 x0 hrf hp6 HRF
          have HEND : Hid (∃ (K' : KD) (Ms : List MK) (cs' : List CH) (p : Option Addr) (cap' : Nat), Value.slice (some ⟨gr, 0, none⟩) lc cap = .slice p cs'.length cap' ∧ Value.int .i64 (freeI N cs) = .int .i64 (freeI N cs') ∧ Pl12 w w6 g gd (1 + 41 * (j + 1)) N h K' Ms cs' p cap') := Lib.hid (by
            have h6 := HP6.out
            rw [← (take_mid HC1.out).1] at h6
            exact ⟨K, Ms2, cs, _, cap, by rw [HLC.out], rfl, h6.mono (by omega)⟩)
          by_cases b1 : 60000 < by_
          · clear hno
            go_wp2_with fail
            go_meet
            exact HEND.out
          by_cases b2 : by_ < -60000
          · clear hno
            go_wp2_with fail
            go_meet
            exact HEND.out
          have hw : IntKind.i64.wrap (rf + by_) = rf + by_ := by rw [IntKind.wrap_i64]; omega
          by_cases b3 : rf + by_ < 0
          · clear hno
            go_wp2_with fail
            go_meet
            exact HEND.out
          have b4 : 60000 < rf + by_ := by omega
          clear hno
          go_wp2_with fail
          go_meet
          exact HEND.out
        · as_aux_lemma =>
          refine id ?_
          have HRF := Lib.hid (pl_refs_yes HP2.out (by have := HM40.out; omega) HBI.out hno)
          rw [← HAT.out, ← hsm] at HRF
          have hub := HON.out.used
          have HSMB : Hid (0 ≤ sm ∧ sm ≤ 60000) := Lib.hid (by rw [hsm]; omega)
          obtain ⟨rf, hrf⟩ : ∃ rf, rf = c1.refs := ⟨_, rfl⟩
          have HRFE := Lib.hid hrf
          have hb1 : ¬ 60000 < by_ := by omega
          have hb2 : ¬ by_ < -60000 := by omega
          have hw : IntKind.i64.wrap (rf + by_) = sm := by rw [IntKind.wrap_i64, hrf, hsm]; omega
          have hb3 : ¬ sm < 0 := by omega
          have hb4 : ¬ 60000 < sm := by omega
          have hss : (sm == sm) = true := by simp
          have hss2 : (sm != sm) = false := by simp
          have HSME := Lib.hid hsm
          clear hno hub hrf hsm
          go_wp2_with fail
          refine HRF.out.mono ?_
          rintro e w6 ⟨rfl, K6, hd6, hr6, hs6⟩
          have HD6 := Lib.hid hd6
          have HR6 := Lib.hid hr6
          have HS6 := Lib.hid hs6
          have hop6 := hd6.held (HSUB2.out _ HOP.out)
          have x4 := held_cell hop6 4
          simp at x4
          have hxb := hd6.held HX2.out
          have HXB : Hid (Blk w6 xg 75 #[.int .i64 at0, .int .i64 c1.gen, .int .i64 c1.tag, .int .i64 c1.refs, .string c1.data]) := Lib.hid hxb
          have u3 := held_cell hxb 3
          have f3 := HXB.out.frozen 3
          simp at u3
          rw [← HRFE.out] at u3
          clear hop6 u0 x0 hd6 hr6 hs6 hxb HRF
          go_upto_region 48 with fail
          obtain ⟨W6, hW6⟩ : ∃ W6, W6 = w6.setCell ⟨xg, 3, none⟩ (.int .i64 sm) := ⟨_, rfl⟩
          rw [← hW6]
          have hk6 : Keep [xg] w6 W6 := by rw [hW6]; exact (Keep.refl _ _).put (.inl (by simp)) 3 _
          have hx6 : Blk W6 xg 75 #[.int .i64 at0, .int .i64 c1.gen, .int .i64 c1.tag, .int .i64 sm, .string c1.data] := by rw [hW6]; exact HXB.out.put 3 _
          have HDS := Lib.hid (HD6.out.store HX2.out HXG.out.2 hk6)
          have hr6 := (HP1.out.row.more HSUB2.out).row HD6.out
          rw [← HLC.out] at hr6
          have hr6 : W6.ownsRow w.heap.size 75 5 (.slice (some ⟨gr, 0, none⟩) lc cap) lc (flatH cs) := row_kept' hr6 (fun k hk => hk6.block k (hr6.lt k hk).2 (by
            injection hk with hk
            have hk : gr = k := hk
            have := HXG.out.1
            simp
            omega))
          obtain ⟨i1, hi1, hy0, hy1, hy2⟩ := info_parts there_info
          obtain ⟨v', w7, hrun, hown, hbel, -⟩ := append_there (w := W6) (B := W6.heap.size) hi1 hy0 hy1 hy2 (.slice none 0 0) 0 [] (World.ownsRow_nil _ _ _ _) (some ⟨gr, 0, none⟩) lc cap cs HLC.out.symm (fun h => by cases h) (fun a ha j u hu => there_at hr6 ha hu) (by omega) (Nat.le_refl _)
          rw [Nat.zero_add, List.nil_append] at hown
          obtain ⟨rg, rcap, rfl, hrg, hrlt⟩ := hown.form hl0
          have HRUN := Lib.hid hrun
          have HOWN := Lib.hid hown
          have HBEL := Lib.hid hbel
          have HRG := Lib.hid hrg
          have hx7 : Blk w7 xg 75 #[.int .i64 at0, .int .i64 c1.gen, .int .i64 c1.tag, .int .i64 sm, .string c1.data] := hx6.below hbel hx6.lt
          have x0 := hx7.cell 0
          have x1 := hx7.cell 1
          have x2 := hx7.cell 2
          have x3 := hx7.cell 3
          have x5 := hx7.cell 4
          simp at x0 x1 x2 x3 x5
          have f := fun (i : Nat) (u : Value) (hi : i < 5) (hu : c1.vals[i]? = some u) => row_cell hown (i := jj * 5 + i) ((flatH_get HC1.out hi).trans hu)
          have z0 := f 0 _ (by omega) rfl
          have z1 := f 1 _ (by omega) rfl
          have z2 := f 2 _ (by omega) rfl
          have z3 := f 3 _ (by omega) rfl
          have z4 := f 4 _ (by omega) rfl
          rw [Nat.add_zero] at z0
          have e0 := row_frozen hown (jj * 5)
          have e1 := row_frozen hown (jj * 5 + 1)
          have e2 := row_frozen hown (jj * 5 + 2)
          have e3 := row_frozen hown (jj * 5 + 3)
          have e4 := row_frozen hown (jj * 5 + 4)
          clear hW6 hk6 hx6 hr6 hi1 hy0 hy1 hy2 hrun hown hbel hrg hrlt hx7 f u3 f3 x4
          go_upto_region 49 with (at_builtin; refine wpList_value rfl (exec_append rfl rfl rfl HRUN.out) ?_)
          go_wp2_with fail
          go_meet
          have r5 := row_putG (row_putG (row_putG (row_putG (row_putG HOWN.out (jj * 5) (.int .i64 at0)) (jj * 5 + 1) (.int .i64 c1.gen)) (jj * 5 + 2) (.int .i64 c1.tag)) (jj * 5 + 3) (.int .i64 sm)) (jj * 5 + 4) (.string c1.data)
          have e := flatH_put (c' := c1.use sm) HC1.out
          have ea : (c1.use sm).at_ = at0 := HAT.out.symm
          rw [ea] at e
          have e : ((((((flatH cs).set (jj * 5) (.int .i64 at0)).set (jj * 5 + 1) (.int .i64 c1.gen)).set (jj * 5 + 2) (.int .i64 c1.tag)).set (jj * 5 + 3) (.int .i64 sm)).set (jj * 5 + 4) (.string c1.data)) = _ := e
          rw [e] at r5
          have hb8 := ((((HBEL.out.setCell (p := ⟨rg, jj * 5, none⟩) HRG.out (.int .i64 at0)).setCell (p := ⟨rg, jj * 5 + 1, none⟩) HRG.out (.int .i64 c1.gen)).setCell (p := ⟨rg, jj * 5 + 2, none⟩) HRG.out (.int .i64 c1.tag)).setCell (p := ⟨rg, jj * 5 + 3, none⟩) HRG.out (.int .i64 sm)).setCell (p := ⟨rg, jj * 5 + 4, none⟩) HRG.out (.string c1.data)
          obtain ⟨Ms9, y1, y2, -⟩ := HDS.out.holdRow hb8 r5
          have hll : (cs.take jj ++ c1.use sm :: cs.drop (jj + 1)).length = lc := by
            have := congrArg List.length (take_mid HC1.out).1
            rw [HLC.out, this, List.length_append, List.length_append, List.length_cons, List.length_cons]
          have HS := HS6.out
          refine ⟨K6, Ms9, cs.take jj ++ c1.use sm :: cs.drop (jj + 1), _, rcap, by rw [hll], ?_, y1.mono (by omega), HR6.out, HS, ?_⟩
          · rw [free_use, ← (take_mid HC1.out).1]
          · rw [hll]
            exact y2.low HDS.out.st.at0.size
      as_aux_lemma =>
        refine id ?_
        go_wp2_with fail
        go_meet
        exact ⟨K, Ms1, cs, p, cap, rfl, rfl, HCONT.out _ _ _ _ _ _ HP1.out⟩
    case rest =>
    as_aux_lemma =>
    refine id ?_
    obtain ⟨K2, Ms2, cs2, p2, cap2, rfl, rfl, hp2⟩ := hcut
    have HP2 := Lib.hid hp2
    clear hp2 HP1 HWAS HOP HPN HPF HD1 HD2 x0 x1 x2 x3 x4 x5 x6 hcon HCONT
    obtain ⟨w5, hw5⟩ : ∃ w5, w5 = wc := ⟨_, rfl⟩
    subst hw5
    have HFEW := Lib.hid HP2.out.few
    obtain ⟨L2, hL2⟩ : ∃ L2, L2 = cs2.length := ⟨_, rfl⟩
    have hL400 : (L2 : Int) ≤ 400 := by have := HFEW.out; omega
    have HL2 := Lib.hid hL2
    have HROW2 : Hid (∀ wx, Below w5.heap.size w5 wx → wx.ownsRow w.heap.size 75 5 (.slice p2 L2 cap2) L2 (flatH cs2)) := Lib.hid (fun wx hb => by rw [HL2.out]; exact (HP2.out.below hb).row.row (HP2.out.below hb).st)
    rw [← hL2]
    clear hL2
    go_wp2_with fail
    go_loopw [21, 22] (fun va i wx => ∃ (a : Nat) (A : Option Addr) (ca : Nat), a ≤ L2 ∧ i = .int .i64 a ∧ va = .slice A (putEach (secsOf (cs2.take a))).length ca ∧ wx.ownsRow w.heap.size 3 1 (.slice A (putEach (secsOf (cs2.take a))).length ca) (putEach (secsOf (cs2.take a))).length ((putEach (secsOf (cs2.take a))).map (Value.int .i64)) ∧ Below w5.heap.size w5 wx) (fun _ i _ => L2 - (intOf i).toNat)
    case atStart => exact ⟨0, none, 0, Nat.zero_le _, rfl, rfl, World.ownsRow_nil _ _ _ _, Below.refl _ _⟩
    case round =>
      obtain ⟨a, A, ca, ha, rfl, rfl, hrow, hbx⟩ := hrel
      have HROW := Lib.hid hrow
      have HBX := Lib.hid hbx
      clear hrow hbx
      by_cases hal : a < L2
      · as_aux_lemma =>
        refine id ?_
        have halI : (a : Int) < (L2 : Int) := by omega
        obtain ⟨c, hc⟩ : ∃ c, cs2[a]? = some c := ⟨_, List.getElem?_eq_getElem (by rw [← HL2.out]; exact hal)⟩
        have hcm : c ∈ cs2 := List.mem_of_getElem? hc
        obtain ⟨gr, rfl, hgb, hgl, hcells⟩ := there_cells (HROW2.out wr HBX.out) (by omega)
        have hth := hcells a c hc
        have HPX := Lib.hid (HP2.out.below HBX.out)
        have HCC := Lib.hid hc
        have HCM := Lib.hid hcm
        have HON := Lib.hid (HP2.out.on.on c hcm)
        have HGET := Lib.hid (pl_get HPX.out hcm)
        have HSEC : Hid (∀ wx, Below wr.heap.size wr wx → Calls Tryz.prog 43 #[.pointer (some ⟨g, 0, none⟩), .int .i64 c.at_] wx fun e w' => ∃ A cp, e = .returned (.tuple #[.slice A c.ps.length cp, .int .i64 0]) ∧ w'.ownsRow wx.heap.size 3 1 (.slice A c.ps.length cp) c.ps.length (c.ps.map (Value.int .i64)) ∧ Below wx.heap.size wx w') := Lib.hid (fun wx hb => pl_secs (HPX.out.below hb) HCM.out)
        have y0 := hth.c0
        have y1 := hth.c1
        have y2 := hth.c2
        have y3 := hth.c3
        have y4 := hth.c4
        obtain ⟨at0, hat⟩ : ∃ at0, at0 = c.at_ := ⟨_, rfl⟩
        rw [← hat] at y0 HGET HSEC
        have HAT := Lib.hid hat
        clear hc hcm hcells hth hat
        go_wp2_with fail
        refine HGET.out.mono ?_
        rintro e w6 ⟨rfl, hb6⟩
        have HB6 := Lib.hid hb6
        clear HGET y0 y1 y2 y3 y4
        go_upto_region 55 with fail
        obtain ⟨w7, hw7⟩ : ∃ w7, w7 = w6.alloc (.cells #[.int .i64 c.gen, .int .i64 c.tag, .int .i64 c.refs, .string c.data] 79) := ⟨_, rfl⟩
        have hb7 : Below wr.heap.size wr w7 := by rw [hw7]; exact hb6.alloc hb6.size _
        obtain ⟨cg, hcg⟩ : ∃ cg, cg = w6.heap.size := ⟨_, rfl⟩
        have HCB : Hid (w7.heap[cg]? = some (.cells #[.int .i64 c.gen, .int .i64 c.tag, .int .i64 c.refs, .string c.data] 79 (0, 0))) := Lib.hid (by rw [hw7, hcg]; exact heap_alloc_new w6 _)
        rw [← hw7, ← hcg]
        have HB7 := Lib.hid hb7
        obtain ⟨gr2, hgr2, _, _, hcells⟩ := there_cells (HROW2.out _ (HBX.out.trans (hb7.mono HBX.out.size))) (by omega)
        injection hgr2 with hgr2
        injection hgr2 with hgr2
        subst hgr2
        have y0 := (hcells a c HCC.out).c0
        rw [← HAT.out] at y0
        have HSEC7 := Lib.hid (HSEC.out w7 hb7)
        obtain ⟨q0, hq0⟩ : ∃ q0, q0 = c.ps.length := ⟨_, rfl⟩
        have HQ0 := Lib.hid hq0
        rw [← hq0] at HSEC7
        have hqI : (q0 : Int) ≤ 40 := by have := HON.out.count; omega
        have hq1 : 1 ≤ q0 := by have := HON.out.count; omega
        clear hw7 hcg hb7 hcells HSEC hq0
        as_aux_lemma =>
          refine id ?_
          go_wp2_with fail
          refine HSEC7.out.mono ?_
          rintro e w8 ⟨sA, sc, rfl, hsr, hb8⟩
          obtain ⟨sg, scap, e1, _, hslt⟩ := hsr.form (by omega)
          injection e1 with e1 _ e3
          subst e1 e3
          have HSR := Lib.hid hsr
          have HB8 : Hid (Below wr.heap.size wr w8) := Lib.hid (HB7.out.trans (hb8.mono HB7.out.size))
          have hcb : w8.heap[cg]? = some (.cells #[.int .i64 c.gen, .int .i64 c.tag, .int .i64 c.refs, .string c.data] 79 (0, 0)) := by rw [hb8.block cg (heap_lt HCB.out)]; exact HCB.out
          have v0 := held_cell hcb 0
          have v1 := held_cell hcb 1
          have v2 := held_cell hcb 2
          have v3 := held_cell hcb 3
          simp at v0 v1 v2 v3
          obtain ⟨gr2, hgr2, _, _, hcells⟩ := there_cells (HROW2.out _ (HBX.out.trans (HB8.out.mono HBX.out.size))) (by omega)
          injection hgr2 with hgr2
          injection hgr2 with hgr2
          subst hgr2
          have hth := hcells a c HCC.out
          have z0 := hth.c0
          have z1 := hth.c1
          have z2 := hth.c2
          have z3 := hth.c3
          have z4 := hth.c4
          rw [← HAT.out] at z0
          have s0 := row_cell hsr (i := 0) (u := .int .i64 at0) (by rw [List.getElem?_map, HAT.out]; unfold CH.at_; rw [List.getD_eq_getElem?_getD, List.getElem?_eq_getElem (by rw [← HQ0.out]; omega)]; rfl)
          have HND8 : Hid (∀ k, Calls Tryz.prog 38 #[.int .i64 (c.data.size : Int)] (w8.drewN k) fun e w' => e = .returned (.int .i64 (q0 : Int)) ∧ w' = w8.drewN k) := Lib.hid (fun k => by
            have := need12_any (c.data.size : Int) (w8.drewN k) (by have := HON.out.few; omega)
            rw [needI_nat, ← HON.out.len, ← HQ0.out] at this
            exact this)
          obtain ⟨gen2, hg1⟩ : ∃ x, x = c.gen := ⟨_, rfl⟩
          obtain ⟨tag2, hg2⟩ : ∃ x, x = c.tag := ⟨_, rfl⟩
          obtain ⟨refs2, hg3⟩ : ∃ x, x = c.refs := ⟨_, rfl⟩
          obtain ⟨data2, hg4⟩ : ∃ x, x = c.data := ⟨_, rfl⟩
          rw [← hg1] at v0 z1
          rw [← hg2] at v1 z2
          rw [← hg3] at v2 z3
          rw [← hg4] at v3 z4 HND8
          have hgg : (gen2 == gen2) = true := by simp
          have hds : (data2.size : Int) ≤ 9440 := by rw [hg4]; have := HON.out.few; omega
          have hse : (data2.toList == data2.toList) = true := by rw [same_text]; exact decide_eq_true rfl
          clear hsr hb8 hcb hcells hth HSEC7 hslt hg1 hg2 hg3 hg4 HCB y0
          have HFRESH : Hid (∀ (v : Nat) (x : Int), c.ps[v]? = some x → x ∉ putEach (secsOf (cs2.take a) ++ c.ps.take v)) := Lib.hid (fun v x hx => HP2.out.on.new HCC.out hx)
          have HSTEP : Hid (∀ (v : Nat) (x : Int), c.ps[v]? = some x → putEach (secsOf (cs2.take a) ++ c.ps.take (v + 1)) = putL x (putEach (secsOf (cs2.take a) ++ c.ps.take v))) := Lib.hid (fun v x hx => step_take hx _)
          have HFULL : Hid (putEach (secsOf (cs2.take a) ++ c.ps.take q0) = putEach (secsOf (cs2.take (a + 1)))) := Lib.hid (by rw [HQ0.out, List.take_length, secs_step HCC.out])
          have HSHORT : Hid (∀ v, (putEach (secsOf (cs2.take a) ++ c.ps.take v)).length ≤ 400) := Lib.hid (fun v => by
            refine Nat.le_trans (putEach_le _) ?_
            have h1 := HFEW.out
            have h2 : secsOf cs2 = secsOf (cs2.take a) ++ (c.ps ++ secsOf (cs2.drop (a + 1))) := by
              conv => lhs; rw [(take_mid HCC.out).1, secs_mid]
            rw [h2] at h1
            simp only [List.length_append] at h1
            have h3 := List.length_take_le v c.ps
            rw [List.length_append]
            have h4 : (c.ps.take v).length ≤ c.ps.length := by rw [List.length_take]; omega
            omega)
          have HB5 : Hid (Below w5.heap.size w5 w8) := Lib.hid (HBX.out.trans (HB8.out.mono HBX.out.size))
          have HROW8 := Lib.hid (row_below HROW.out HB8.out)
          go_upto_region 56 with fail
          go_quiet (first | (go_at_call 38; refine Calls.quiet_of_same (HND8.out _)))
          clear v0 v1 v2 v3 z0 z1 z2 z3 z4 s0 hgg hds hse
          as_aux_lemma =>
            refine id ?_
            go_wp2_with fail
            go_loopw [21, 27] (fun va i wx => ∃ (v : Nat) (l : List Int) (A : Option Addr) (ca : Nat), v ≤ q0 ∧ l = putEach (secsOf (cs2.take a) ++ c.ps.take v) ∧ i = .int .i64 v ∧ va = .slice A l.length ca ∧ wx.ownsRow w.heap.size 3 1 (.slice A l.length ca) l.length (l.map (Value.int .i64)) ∧ Below w8.heap.size w8 wx) (fun _ i _ => q0 - (intOf i).toNat)
            case atStart => exact ⟨0, _, A, ca, Nat.zero_le _, by simp, rfl, rfl, HROW8.out, below_drewN (Below.refl _ _) nq⟩
            case round =>
              obtain ⟨v, l, A, ca, hv, hl, rfl, rfl, hrow, hbv⟩ := hrel
              have HLE := Lib.hid hl
              have HROWV := Lib.hid hrow
              have HBV := Lib.hid hbv
              have HLN : Hid (l.length ≤ 400) := Lib.hid (by rw [hl]; exact HSHORT.out v)
              clear hrow hbv hl
              by_cases hvl : v < q0
              · as_aux_lemma =>
                refine id ?_
                have hvI : (v : Int) < (q0 : Int) := by omega
                obtain ⟨x, hx⟩ : ∃ x, c.ps[v]? = some x := ⟨_, List.getElem?_eq_getElem (by rw [← HQ0.out]; exact hvl)⟩
                have HXX := Lib.hid hx
                have sv := row_cell (row_below HSR.out HBV.out) (i := v) (u := .int .i64 x) (by rw [List.getElem?_map, hx]; rfl)
                have HAM := Lib.hid (ramong_any x A ca l.length l wr rfl (row_ints HROWV.out) (by have := HLN.out; omega))
                rw [decide_eq_false (by rw [HLE.out]; exact HFRESH.out v x hx)] at HAM
                have HPT := Lib.hid (rput_any x A ca l.length l w.heap.size wr rfl HROWV.out (by have := HLN.out; omega) (Nat.le_trans HP2.out.base.size (Nat.le_trans HB5.out.size HBV.out.size)))
                clear hx
                go_wp2_with (go_at_call 12; refine HAM.out.mono ?_; rintro e w9 ⟨rfl, rfl⟩)
                refine HPT.out.mono ?_
                rintro e w9 ⟨A', c', rfl, hrow', hb9⟩
                have HROW9 := Lib.hid hrow'
                have HB9 := Lib.hid (HBV.out.trans (hb9.mono HBV.out.size))
                clear hrow' hb9 HAM HPT sv
                go_wp2_with fail
                go_roundw
                case rel => exact ⟨v + 1, putL x l, A', c', by omega, by rw [HLE.out, HSTEP.out v x HXX.out], by go_num, rfl, HROW9.out, HB9.out⟩
                case measure => simp [intOf]; omega
              · as_aux_lemma =>
                refine id ?_
                obtain rfl : v = q0 := by omega
                have HL1 : Hid (l = putEach (secsOf (cs2.take (a + 1)))) := Lib.hid (by rw [HLE.out, HFULL.out])
                go_wp2_with fail
                go_roundw
                case rel => exact ⟨a + 1, A, ca, by omega, by go_num, by rw [← HL1.out], by rw [← HL1.out]; exact HROWV.out, HB5.out.trans (HBV.out.mono HB5.out.size)⟩
                case measure => simp [intOf]; omega
      · as_aux_lemma =>
        refine id ?_
        obtain rfl : a = L2 := by omega
        have hlz : ¬ (a : Int) < (a : Int) := by omega
        obtain ⟨r1, r2, r3⟩ := HP2.out.room
        have htk : cs2.take a = cs2 := List.take_of_length_le (by rw [HL2.out]; exact Nat.le_refl _)
        have HROWA := HROW.out
        rw [htk] at HROWA
        obtain ⟨al, hal2⟩ : ∃ al, al = putEach (secsOf cs2) := ⟨_, rfl⟩
        have HLEN : Hid ((putEach (secsOf (cs2.take a))).length = al.length) := Lib.hid (by rw [htk, hal2])
        rw [← hal2] at HROWA r1 r3
        have HAL := Lib.hid HROWA
        have HH := Lib.hid r1
        have HFRI := Lib.hid r2
        have HRM := Lib.hid (dmk_room (HP2.out.below HBX.out).st HP2.out.run)
        have hal4 : (al.length : Int) ≤ 400 := by omega
        rw [HLEN.out]
        clear r1 r2 r3 htk hal2 HROWA HROW
        obtain ⟨w6, hw6⟩ : ∃ w6, w6 = wr := ⟨_, rfl⟩
        subst hw6
        go_wp2_with fail
        refine HRM.out.mono ?_
        rintro e w7 ⟨rfl, hroom, hb7⟩
        have HB7 := Lib.hid hb7
        have HRO := Lib.hid hroom
        obtain ⟨lh, hlh⟩ : ∃ lh, lh = K2.H.length := ⟨_, rfl⟩
        have HLH := Lib.hid hlh
        have HLA : Hid (lh = 2 + al.length) := Lib.hid (by rw [hlh, HH.out, List.length_append]; rfl)
        have hlh4 : (lh : Int) ≤ 402 := by have := HLA.out; omega
        have HALL := Lib.hid (rall_any hroom)
        have HFR : Hid (∀ wx, Below w7.heap.size w7 wx → Calls Tryz.prog 46 #[.pointer (some ⟨w6.heap.size, 0, none⟩)] wx fun e w' => e = .returned (.int .i64 (freeI N cs2)) ∧ w' = wx) := Lib.hid (fun wx hb => by
          have := rfree_any (hroom.below hb)
          rw [HFRI.out] at this
          exact this)
        rw [← hlh] at HALL
        obtain ⟨rg, hrg⟩ : ∃ rg, rg = w6.heap.size := ⟨_, rfl⟩
        rw [← hrg] at HALL HFR ⊢
        clear hroom hb7 hrg HRM hlh HRO
        go_wp2_with fail
        refine HALL.out.mono ?_
        rintro e w9 ⟨A9, c9, rfl, hr9, hb9⟩
        have HB9 := Lib.hid hb9
        have HB69 : Hid (Below w6.heap.size w6 w9) := Lib.hid (HB7.out.trans (hb9.mono HB7.out.size))
        obtain ⟨i1, hi1, hy0, hy1, hy2⟩ := info_parts hints_info
        have halr := row_below HAL.out HB69.out
        obtain ⟨v', w10, hrun, hown, hbel, -⟩ := append_part (w := w9.alloc (.cells #[.int .i64 0, .int .i64 1] 3)) (B := w9.heap.size) hi1 hy0 hy1 hy2 (.slice (some ⟨w9.heap.size, 0, none⟩) 2 2) 2 [.int .i64 0, .int .i64 1] (row01 w9) A al.length ca al rfl (row_none halr) (fun a ha j y hy => there_at (halr.alloc _) ha (by rw [List.getElem?_map, hy]; rfl)) (by omega) (by simp)
        have HRUN := Lib.hid hrun
        have hb10 : Below w9.heap.size w9 w10 := ((Below.refl _ _).alloc (Nat.le_refl _) _).trans hbel
        obtain ⟨vA, vc, rfl, -⟩ := row_slice' hown
        have HB10 := Lib.hid hb10
        rw [← HLA.out] at hown
        have hH2 : K2.H.map (Value.int .i64) = [.int .i64 0, .int .i64 1] ++ al.map (Value.int .i64) := by rw [HH.out, List.map_append]; rfl
        rw [← hH2] at hown
        have HSM : Hid (Calls Tryz.prog 39 #[.slice A9 lh c9, .slice vA (2 + al.length : Nat) vc] w10 fun e w' => e = .returned (.bool true) ∧ ∃ n, w' = w10.drewN n) := Lib.hid (by
          rw [← HLA.out]
          refine ksame_any A9 vA lh c9 vc K2.H w10 HLH.out.symm ?_ ?_ (by omega)
          · have h9 := row_below hr9 hb10
            rw [HLH.out] at h9
            exact row_ints h9
          · rw [HLH.out] at hown
            exact row_ints hown)
        obtain ⟨fr2, hfr2⟩ : ∃ fr2, fr2 = freeI N cs2 := ⟨_, rfl⟩
        rw [← hfr2] at HFR
        have HFE := Lib.hid hfr2
        rw [← hfr2]
        have hff : (fr2 == fr2) = true := by simp
        have hff2 : (fr2 != fr2) = false := by simp
        have HPE := Lib.hid ((HP2.out.below HBX.out).below (HB69.out.trans (hb10.mono HB69.out.size)))
        have HBF := Lib.hid (HB9.out.trans (hb10.mono HB9.out.size))
        clear hr9 hb9 HALL hrun hown hbel hb10 hH2 halr hi1 hy0 hy1 hy2 hfr2
        as_aux_lemma =>
          refine id ?_
          go_wp2_with (at_builtin; refine wpList_valueG (by go_simp) (exec_append rfl rfl rfl HRUN.out) ?_)
          refine HSM.out.mono ?_
          rintro e w11 ⟨rfl, d11, rfl⟩
          have HFR11 := Lib.hid (HFR.out (w10.drewN d11) (below_drewN HBF.out d11))
          have HPE11 := Lib.hid (HPE.out.below (below_drewN (Below.refl _ _) d11))
          clear HSM
          go_wp2_with (go_at_call 46; refine HFR11.out.mono ?_; rintro e w12 ⟨rfl, rfl⟩)
          go_roundw
          case rel => exact ⟨j + 1, K2, Ms2, cs2, p2, cap2, by omega, by rw [← HL2.out], by rw [HFE.out], by go_num, HPE11.out⟩
          case measure => simp [intOf]; omega
theorem cplays_any (n : Int) (A : Option Addr) (nl c : Nat) (ds : List Op12) (size : Int) (w : World) (_ : -9223372036854775808 ≤ n ∧ n ≤ 9223372036854775807) (hA : Acts12In w A nl c ds) (hs : -9223372036854775808 ≤ size ∧ size ≤ 9223372036854775807) :
    Calls Tryz.prog 4 #[.int .i64 n, .slice A nl c, .int .i64 size] w fun e w' => e = .returned (.bool true) ∧ Below w.heap.size w w' := by
  by_cases ho : n < 140 ∨ 400 < n
  · exact cplays_out n A nl c size w ho
  · obtain ⟨N, rfl⟩ : ∃ m : Nat, n = (m : Int) := ⟨n.toNat, by omega⟩
    exact cplays_in N A nl c ds size w hA (by omega) hs
end Go.Proofs.YtnamokngiebicaaGreatDoor
