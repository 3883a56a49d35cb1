/-
  CdcAlone, walked. No statement is proved here.
-/
import Derived.Test.YtnmdpbnddbccmaaCdcBoundsWalk
namespace Go.Proofs.Ytnmdpbnddbccmaa
open Go.RowKit

/-- The rule of stores, as its block's cells. -/
theorem dfl_new (w : World) : RuleAt (w.alloc (.cells #[.int .i64 32, .int .i64 64, .int .i64 128, .int .i64 7, .int .i64 5] 23)) w.heap.size dfl := Blk.new w _ _
theorem dfl_cells {w : World} {g : Nat} (h : RuleAt w g dfl) : w.cell? ⟨g, 0, none⟩ = some (.int .i64 32) ∧ w.cell? ⟨g, 1, none⟩ = some (.int .i64 64) ∧ w.cell? ⟨g, 2, none⟩ = some (.int .i64 128) ∧ w.cell? ⟨g, 3, none⟩ = some (.int .i64 7) ∧ w.cell? ⟨g, 4, none⟩ = some (.int .i64 5) := ⟨h.cell 0, h.cell 1, h.cell 2, h.cell 3, h.cell 4⟩
/-- Its calls, the rule written out. -/
theorem dfl_first (s : ByteArray) (w : World) (hs : s.size ≤ 140737488351232) (n : Nat) (hn : firstL dfl s.data.toList = n) :
    Calls Try.prog 18 #[.agg #[.int .i64 32, .int .i64 64, .int .i64 128, .int .i64 7, .int .i64 5], .string s] w fun e w' => e = .returned (.int .i64 (n : Int)) ∧ Below w.heap.size w w' := by
  have h := cfirst_any dfl s w hs
  rw [hn] at h
  exact h
theorem dfl_cut (A : Option Addr) (m c : Nat) (xs : List ByteArray) (w : World) (hm : xs.length = m) (hx : Txts w w.heap.size A xs) (hl : m ≤ 1000000) (hc : m ≤ c) (hs : (cats xs).length ≤ 1000000) (l : List (Int × Int)) (hl' : l = cutL dfl 0 (cats xs)) (M : Nat) (hM : M = l.length) :
    Calls Try.prog 13 #[.agg #[.int .i64 32, .int .i64 64, .int .i64 128, .int .i64 7, .int .i64 5], .slice A m c] w fun e w' => ∃ p cap, e = .returned (.slice p M cap) ∧ w'.ownsRow w.heap.size 52 2 (.slice p M cap) M (flatS l) ∧ Below w.heap.size w w' := by
  have h := ccut_any dfl A m c xs w hm hx hl hc hs
  rw [← hl', ← hM] at h
  exact h
/-- A row that is not empty lies in a block. -/
theorem row_some {w : World} {base n cap : Nat} {p : Option Addr} {e : TypeId} {size : Nat} {xs : List Value} (h : w.ownsRow base e size (.slice p n cap) n xs) (hn : 0 < n) : ∃ b, p = some ⟨b, 0, none⟩ ∧ b < w.heap.size := by
  obtain ⟨pp, cc, ee, -, -, h0, ha⟩ := krow_form h
  injection ee with ee _ _
  subst ee
  rcases p with _ | a
  · exact absurd (h0 rfl) (by omega)
  · refine ⟨a.block, by rw [← ha a rfl], (h.lt a.block ?_).2⟩
    rfl
theorem part_list (s : ByteArray) (f n : Nat) : (s.extract f (f + n)).data.toList = (s.data.toList.drop f).take n := by
  rw [extract_list, List.drop_take]
  congr 1
  omega
theorem part_size (s : ByteArray) (f F : Nat) (h : F ≤ s.size) : (s.extract f F).size = F - f := by rw [ByteArray.size_extract, Nat.min_eq_left h]

set_option maxRecDepth 100000 in
set_option maxHeartbeats 8000000 in
theorem calone_in (s more : ByteArray) (at' : Nat) (w : World) (hs : s.size ≤ 1200) (hm : more.size ≤ 600) (ha : at' ≤ 9223372036854775807) :
    Calls Try.prog 6 #[.string s, .string more, .int .i64 (at' : Int)] w fun e w' => e = .returned (.bool true) ∧ Below w.heap.size w w' := by
  obtain ⟨l, hl⟩ : ∃ l, l = cutL dfl 0 (cats [s]) := ⟨_, rfl⟩
  obtain ⟨M, hM⟩ : ∃ M, M = l.length := ⟨_, rfl⟩
  have hsz : s.data.toList.length = s.size := by rw [← Lib.size_eq]
  have HL := Lib.hid hl
  have HM := Lib.hid hM
  have HSZ := Lib.hid hsz
  have HM1 : Hid (M ≤ 1200) := Lib.hid (by rw [hM, hl]; have := cutL_few dfl 0 (cats [s]); rw [cat1] at this ⊢; omega)
  have h1 : decide ((1200 : Int) < (s.size : Int)) = false := decide_eq_false (by omega)
  have h2 : decide ((600 : Int) < (more.size : Int)) = false := decide_eq_false (by omega)
  have h3 : decide ((at' : Int) < 0) = false := decide_eq_false (by omega)
  clear hl hM hsz
  go_enter Try.func6, Try.ntmps6
  go_wp2_with fail
  refine (alive14_any _).mono ?_
  rintro e w1 ⟨rfl, hb1⟩
  have HB1 := Lib.hid hb1
  clear hb1
  go_wp2_with fail
  refine (default_any _).mono ?_
  rintro e w2 ⟨rfl, hb2⟩
  obtain ⟨g, hg⟩ : ∃ g, g = w2.heap.size := ⟨_, rfl⟩
  obtain ⟨w3, hw3⟩ : ∃ w3, w3 = w2.alloc (.cells #[.int .i64 32, .int .i64 64, .int .i64 128, .int .i64 7, .int .i64 5] 23) := ⟨_, rfl⟩
  have hbk : RuleAt w3 g dfl := by rw [hw3, hg]; exact dfl_new w2
  have HK := Lib.hid hbk
  have HB3 : Hid (Below w.heap.size w w3) := Lib.hid (by rw [hw3]; have := HB1.out.trans (hb2.mono HB1.out.size); exact this.alloc this.size _)
  go_upto_region 4 with fail
  rw [← hw3, ← hg]
  clear hb2 hg hw3 hbk
  obtain ⟨c0, c1, c2, c3, c4⟩ := dfl_cells HK.out
  have HCUT := Lib.hid (dfl_cut (some ⟨w3.heap.size, 0, none⟩) 1 1 [s] (w3.alloc (.cells #[.string s] 9)) rfl (txts_at _ _ _ _ rfl rfl) (by omega) (Nat.le_refl _) (by rw [cat1]; have := HSZ.out; omega) l HL.out M HM.out)
  go_wp2_with fail
  refine HCUT.out.mono ?_
  rintro e w4 ⟨p, cap, rfl, hown, hb4⟩
  have hb34 : Below w3.heap.size w3 w4 := ((Below.refl _ _).alloc (Nat.le_refl _) _).trans (hb4.mono (by simp))
  have HB4 := Lib.hid (HB3.out.trans (hb34.mono HB3.out.size))
  have HK4 := Lib.hid (HK.out.below hb34 HK.out.lt)
  have HOWN := Lib.hid hown
  clear hown hb4 hb34 c0 c1 c2 c3 c4 HCUT
  obtain ⟨c0, c1, c2, c3, c4⟩ := dfl_cells HK4.out
  rcases Nat.eq_zero_or_pos M with hM0 | hM0
  · have HE : Hid (firstL dfl s.data.toList = 0) := Lib.hid (by
      have h := HL.out
      rw [cat1] at h
      have h2 : l = [] := List.eq_nil_of_length_eq_zero (by rw [← HM.out]; exact hM0)
      rw [h2] at h
      rw [cutL_empty h.symm]
      rfl)
    have HF := Lib.hid (fun w => dfl_first s w (by omega) 0 HE.out)
    subst hM0
    go_wp2_with fail
    refine (HF.out _).mono ?_
    rintro e w5 ⟨rfl, hb5⟩
    go_wp2_with fail
    go_ret
    exact ⟨rfl, HB4.out.trans (hb5.mono HB4.out.size)⟩
  · obtain ⟨k, hk⟩ : ∃ k, k = at' % M := ⟨_, rfl⟩
    have hkM : k < M := by rw [hk]; exact Nat.mod_lt _ hM0
    have hrem : Int.tmod (at' : Int) (M : Int) = (k : Int) := by rw [hk]; exact (Int.ofNat_tmod _ _).symm
    have hMne : (M : Int) ≠ 0 := by omega
    have hkI : (k : Int) < (M : Int) := by omega
    obtain ⟨x0, x1, hx⟩ := spans_get HM.out.symm hkM
    have hx2 := hx
    rw [HL.out, cat1] at hx2
    obtain ⟨f, e0, e1, e2, e3⟩ := cutL_at dfl 0 _ k x0 x1 hx2
    rw [Nat.zero_add] at e0 e2
    obtain ⟨n, hn⟩ : ∃ n, n = firstL dfl (s.data.toList.drop f) := ⟨_, rfl⟩
    have hnl := firstL_le dfl (s.data.toList.drop f)
    rw [← hn] at e2 hnl
    rw [List.length_drop, HSZ.out] at hnl
    rw [HSZ.out] at e1
    obtain ⟨pc, hpc⟩ : ∃ pc, pc = s.extract f (f + n) := ⟨_, rfl⟩
    have hpl : pc.data.toList = (s.data.toList.drop f).take n := by rw [hpc, part_list]
    have hps : pc.size = n := by rw [hpc, part_size _ _ _ (by omega)]; omega
    have HP1 := Lib.hid (fun w => dfl_first pc w (by omega) pc.size (by rw [hpl, hps, hn, firstL_self]))
    have HP2 := Lib.hid (fun w => dfl_first (s.extract f s.size) w (by rw [part_size _ _ _ (Nat.le_refl _)]; omega) pc.size (by rw [extract_drop, hps, hn]))
    have HP3 : Hid (k + 1 < M → ∀ w, Calls Try.prog 18 #[.agg #[.int .i64 32, .int .i64 64, .int .i64 128, .int .i64 7, .int .i64 5], .string (pc ++ more)] w fun e w' => e = .returned (.int .i64 (pc.size : Int)) ∧ Below w.heap.size w w') := Lib.hid (fun hkn w => dfl_first (pc ++ more) w (by rw [ByteArray.size_append]; omega) pc.size (by
      rw [ByteArray.data_append, Array.toList_append, hpl, hps, hn]
      refine firstL_more dfl_ok _ _ (cutL_next e3 ?_)
      have := HL.out
      rw [cat1] at this
      rw [← this, ← HM.out]
      exact hkn))
    obtain ⟨F, hF⟩ : ∃ F, F = f + n := ⟨_, rfl⟩
    have hFs : F ≤ s.size := by omega
    have hfF : f ≤ F := by omega
    have hfs : f ≤ s.size := by omega
    have hx0 : x0 = (f : Int) := e0
    have hx1 : x1 = (F : Int) := by rw [e2, hF]
    rw [← hF] at hpc
    obtain ⟨bp, rfl, hbp⟩ := row_some HOWN.out hM0
    have HSP : Hid (Spans w4 w4.heap.size (some ⟨bp, 0, none⟩) l) := Lib.hid (row_spans (by rw [← HM.out]; exact HOWN.out))
    have hsp : w4.cell? ⟨bp, k * 2, none⟩ = some (.int .i64 (f : Int)) ∧ w4.cell? ⟨bp, k * 2 + 1, none⟩ = some (.int .i64 (F : Int)) := by
      obtain ⟨bb, off, hA, hbB, hc⟩ := HSP.out (by rw [← HM.out]; omega)
      injection hA with hA
      injection hA with h1 h2 h3
      subst h1 h2
      obtain ⟨t0, t1⟩ := hc k _ hx
      simp only [Nat.zero_add] at t0 t1
      rw [hx0] at t0
      rw [hx1] at t1
      exact ⟨t0, t1⟩
    have HCW : Hid (∀ w', Below w4.heap.size w4 w' → w'.cell? ⟨g, 0, none⟩ = some (.int .i64 32) ∧ w'.cell? ⟨g, 1, none⟩ = some (.int .i64 64) ∧ w'.cell? ⟨g, 2, none⟩ = some (.int .i64 128) ∧ w'.cell? ⟨g, 3, none⟩ = some (.int .i64 7) ∧ w'.cell? ⟨g, 4, none⟩ = some (.int .i64 5) ∧ w'.cell? ⟨bp, k * 2, none⟩ = some (.int .i64 (f : Int)) ∧ w'.cell? ⟨bp, k * 2 + 1, none⟩ = some (.int .i64 (F : Int))) := Lib.hid (fun w' hw => by
      obtain ⟨t0, t1, t2, t3, t4⟩ := dfl_cells (HK4.out.below hw HK4.out.lt)
      exact ⟨t0, t1, t2, t3, t4, (hw.cell (p := ⟨bp, k * 2, none⟩) hbp).trans hsp.1, (hw.cell (p := ⟨bp, k * 2 + 1, none⟩) hbp).trans hsp.2⟩)
    obtain ⟨s0, s1⟩ := hsp
    have hpcs : pc.size ≤ 1200 := by omega
    have HPC := Lib.hid hpc
    clear hk hx hx2 e0 e1 e2 e3 hn hnl hpc hpl hps hF hx0 hx1 hbp
    go_upto_region 8 with fail
    go_quiet (fail)
    rw [← HPC.out]
    go_upto_region 9 with fail
    have h0J : Below w4.heap.size w4 w4 := Below.refl _ _
    refine wp_region_grow (Below w4.heap.size w4) (by kernel_rfl) (by kernel_rfl) (below_dn _ _).drew ?_
    apply grow_step
    · intro w' hw K hK
      obtain ⟨q0, q1, q2, q3, q4, -, -⟩ := HCW.out w' hw
      go_simp
      exact hK
    · exact ⟨_, rfl, Nat.le_of_ble_eq_true rfl⟩
    · exact ⟨_, h0J⟩
    apply grow_step
    · intro w' hw K hK
      go_simp
      exact hK
    · exact ⟨_, rfl, Nat.le_of_ble_eq_true rfl⟩
    · exact ⟨_, h0J⟩
    refine grow_call (fun w' hw => (HP1.out w').mono fun e w'' ⟨he, hb⟩ => ⟨he, hw.trans (hb.mono hw.size)⟩) (by simp [Region.wanted]) (fun w' hw => by go_simp) ?_
    simp only [Act.put, List.setIfInBounds_toArray, List.set_cons_succ, List.set_cons_zero]
    apply grow_step
    · intro w' hw K hK
      go_simp
      exact hK
    · exact ⟨_, rfl, Nat.le_of_ble_eq_true rfl⟩
    · exact ⟨_, h0J⟩
    apply grow_step
    · intro w' hw K hK
      go_simp
      exact hK
    · exact ⟨_, rfl, Nat.le_of_ble_eq_true rfl⟩
    · exact ⟨_, h0J⟩
    apply grow_step
    · intro w' hw K hK
      go_simp
      exact hK
    · exact ⟨_, rfl, Nat.le_of_ble_eq_true rfl⟩
    · exact ⟨_, h0J⟩
    apply grow_step
    · intro w' hw K hK
      go_simp
      exact hK
    · exact ⟨_, rfl, Nat.le_of_ble_eq_true rfl⟩
    · exact ⟨_, h0J⟩
    apply grow_step
    · intro w' hw K hK
      obtain ⟨q0, q1, q2, q3, q4, -, -⟩ := HCW.out w' hw
      go_simp
      exact hK
    · exact ⟨_, rfl, Nat.le_of_ble_eq_true rfl⟩
    · exact ⟨_, h0J⟩
    apply grow_step
    · intro w' hw K hK
      go_simp
      exact hK
    · exact ⟨_, rfl, Nat.le_of_ble_eq_true rfl⟩
    · exact ⟨_, h0J⟩
    apply grow_step
    · intro w' hw K hK
      go_simp
      exact hK
    · exact ⟨_, rfl, Nat.le_of_ble_eq_true rfl⟩
    · exact ⟨_, h0J⟩
    apply grow_step
    · intro w' hw K hK
      go_simp
      exact hK
    · exact ⟨_, rfl, Nat.le_of_ble_eq_true rfl⟩
    · exact ⟨_, h0J⟩
    apply grow_step
    · intro w' hw K hK
      obtain ⟨-, -, -, -, -, q0, q1⟩ := HCW.out w' hw
      go_simp
      exact hK
    · exact ⟨_, rfl, Nat.le_of_ble_eq_true rfl⟩
    · exact ⟨_, h0J⟩
    apply grow_step
    · intro w' hw K hK
      obtain ⟨-, -, -, -, -, q0, q1⟩ := HCW.out w' hw
      go_simp
      exact hK
    · exact ⟨_, rfl, Nat.le_of_ble_eq_true rfl⟩
    · exact ⟨_, h0J⟩
    apply grow_step
    · intro w' hw K hK
      obtain ⟨-, -, -, -, -, q0, q1⟩ := HCW.out w' hw
      go_simp
      exact hK
    · exact ⟨_, rfl, Nat.le_of_ble_eq_true rfl⟩
    · exact ⟨_, h0J⟩
    apply grow_step
    · intro w' hw K hK
      obtain ⟨-, -, -, -, -, q0, q1⟩ := HCW.out w' hw
      go_simp
      exact hK
    · exact ⟨_, rfl, Nat.le_of_ble_eq_true rfl⟩
    · exact ⟨_, h0J⟩
    refine grow_call (fun w' hw => (HP2.out w').mono fun e w'' ⟨he, hb⟩ => ⟨he, hw.trans (hb.mono hw.size)⟩) (by go_simp) (fun w' hw => by go_simp) ?_
    simp only [Act.put, List.setIfInBounds_toArray, List.set_cons_succ, List.set_cons_zero]
    apply grow_step
    · intro w' hw K hK
      go_simp
      exact hK
    · exact ⟨_, rfl, Nat.le_of_ble_eq_true rfl⟩
    · exact ⟨_, h0J⟩
    apply grow_step
    · intro w' hw K hK
      go_simp
      exact hK
    · exact ⟨_, rfl, Nat.le_of_ble_eq_true rfl⟩
    · exact ⟨_, h0J⟩
    apply grow_step
    · intro w' hw K hK
      go_simp
      exact hK
    · exact ⟨_, rfl, Nat.le_of_ble_eq_true rfl⟩
    · exact ⟨_, h0J⟩
    apply grow_step
    · intro w' hw K hK
      go_simp
      exact hK
    · exact ⟨_, rfl, Nat.le_of_ble_eq_true rfl⟩
    · exact ⟨_, h0J⟩
    refine grow_nil ?_
    intro w5 hw5
    have HB5 := Lib.hid (HB4.out.trans (hw5.mono HB4.out.size))
    have HK5 := Lib.hid (HK4.out.below hw5 HK4.out.lt)
    clear h0J hw5 c0 c1 c2 c3 c4 s0 s1
    have hj1 : IntKind.i64.wrap ((k : Int) + 1) = (k : Int) + 1 := by rw [IntKind.wrap_i64]; have := HM1.out; omega
    by_cases hkn : k + 1 = M
    · have hkn' : ((k : Int) + 1 == (M : Int)) = true := by rw [beq_iff_eq]; omega
      go_wp2_with fail
      go_ret
      exact ⟨rfl, HB5.out⟩
    · have hkn' : ((k : Int) + 1 == (M : Int)) = false := by simp; omega
      have hkn2 : ¬ (k : Int) + 1 = (M : Int) := by omega
      have hpm : ¬ 9223372036854775807 < pc.size + more.size := by omega
      have hpm2 : pc.size + more.size ≤ 9223372036854775807 := by omega
      obtain ⟨c0, c1, c2, c3, c4⟩ := dfl_cells HK5.out
      have HP3' := Lib.hid (HP3.out (by omega))
      go_wp2_with fail
      refine (HP3'.out _).mono ?_
      rintro e w6 ⟨rfl, hb6⟩
      have HB6 := Lib.hid (HB5.out.trans (hb6.mono HB5.out.size))
      clear hb6
      go_wp2_with fail
      go_ret
      exact ⟨rfl, HB6.out⟩
set_option maxRecDepth 100000 in
set_option maxHeartbeats 8000000 in
theorem calone_out (s more : ByteArray) (at' : Int) (w : World) (ho : 1200 < s.size ∨ 600 < more.size ∨ at' < 0) :
    Calls Try.prog 6 #[.string s, .string more, .int .i64 at'] w fun e w' => e = .returned (.bool true) ∧ Below w.heap.size w w' := by
  by_cases h1 : 1200 < s.size
  · have h1' : (1200 : Int) < (s.size : Int) := by omega
    clear ho
    go_enter Try.func6, Try.ntmps6
    go_wp2_with fail
    refine (alive14_any _).mono ?_
    rintro e w1 ⟨rfl, hb1⟩
    go_wp2_with fail
    go_ret
    exact ⟨rfl, hb1⟩
  have h1' : decide ((1200 : Int) < (s.size : Int)) = false := decide_eq_false (by omega)
  by_cases h2 : 600 < more.size
  · have h2' : (600 : Int) < (more.size : Int) := by omega
    clear ho h1
    go_enter Try.func6, Try.ntmps6
    go_wp2_with fail
    refine (alive14_any _).mono ?_
    rintro e w1 ⟨rfl, hb1⟩
    go_wp2_with fail
    go_ret
    exact ⟨rfl, hb1⟩
  have h2' : decide ((600 : Int) < (more.size : Int)) = false := decide_eq_false (by omega)
  have h3 : at' < 0 := by omega
  clear ho h1 h2
  go_enter Try.func6, Try.ntmps6
  go_wp2_with fail
  refine (alive14_any _).mono ?_
  rintro e w1 ⟨rfl, hb1⟩
  go_wp2_with fail
  go_ret
  exact ⟨rfl, hb1⟩
theorem calone_any (s more : ByteArray) (at' : Int) (w : World) (_hs : s.size ≤ 140737488351232) (_hm : more.size ≤ 140737488351232) (ha : -9223372036854775808 ≤ at' ∧ at' ≤ 9223372036854775807) :
    Calls Try.prog 6 #[.string s, .string more, .int .i64 at'] w fun e w' => e = .returned (.bool true) ∧ Below w.heap.size w w' := by
  by_cases h : 1200 < s.size ∨ 600 < more.size ∨ at' < 0
  · exact calone_out s more at' w h
  · obtain ⟨k, rfl⟩ := Int.eq_ofNat_of_zero_le (show 0 ≤ at' by omega)
    exact calone_in s more k w (by omega) (by omega) (by omega)
end Go.Proofs.Ytnmdpbnddbccmaa
