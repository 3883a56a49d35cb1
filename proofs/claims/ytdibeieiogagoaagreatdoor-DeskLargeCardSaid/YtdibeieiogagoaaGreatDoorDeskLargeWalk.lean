/-
  DeskLarge: the law's walk. No statement is proved here.
-/
import Derived.Test.YtdibeieiogagoaaGreatDoorDeskAwake
import Derived.BigQuiet
import Derived.Deep.QuietTactic
namespace Go.Proofs.YtdibeieiogagoaaGreatDoor
open Go.RowKit

/-- i sectors are taken. -/
def takeK (K : KD) (X : ByteArray) : Nat → KD
  | 0 => K
  | i + 1 => newK (takeK K X i) (2 + i) X
theorem rangeI_succ (n : Nat) : rangeI (n + 1) = rangeI n ++ [(n : Int)] := by
  unfold rangeI
  rw [List.range_succ, List.map_append]
  rfl
theorem rangeI_least (n : Nat) : Least (rangeI n) n := ⟨fun i hi => rangeI_mem.2 ⟨by omega, by omega⟩, fun h => by have := (rangeI_mem.1 h).2; omega⟩
structure Take11 (K0 : KD) (h : List ByteArray) (X : ByteArray) (i : Nat) (K : KD) : Prop where
  run : Run11 400 K h 2
  H : K.H = rangeI (i + 2)
  F : ∀ t, K.F t = if 2 ≤ t ∧ t < (i : Int) + 2 then X else .empty
  kept : K.kept = K0.kept
  S : K.S = K0.S
  k : K.k = K0.k
theorem takes_any {K0 : KD} {h : List ByteArray} {X : ByteArray} (hF : Fresh11 400 K0 h) (hX : X.size = 256) : ∀ i, i ≤ 160 → Take11 K0 h X i (takeK K0 X i)
  | 0, _ => ⟨hF.run, by rw [show takeK K0 X 0 = K0 from rfl, hF.H]; decide, fun t => by rw [show takeK K0 X 0 = K0 from rfl, hF.F, if_neg (by omega)], rfl, rfl, rfl⟩
  | i + 1, hi => by
    have ih := takes_any hF hX i (by omega)
    have hL : Least (takeK K0 X i).H (2 + i) := by rw [ih.H, Nat.add_comm i 2]; exact rangeI_least _
    refine ⟨ih.run.new hL (by omega) hX, ?_, fun t => ?_, ih.kept, ih.S, ih.k⟩
    · show putL ((2 + i : Nat) : Int) (takeK K0 X i).H = _
      have e : rangeI (i + 1 + 2) = rangeI (i + 2) ++ [((i + 2 : Nat) : Int)] := rangeI_succ (i + 2)
      rw [ih.H, putL_last _ _ (fun y hy => by have := (rangeI_mem.1 hy).2; omega), e, Nat.add_comm 2 i]
    · show updF (takeK K0 X i).F ((2 + i : Nat) : Int) X t = _
      by_cases e : t = ((2 + i : Nat) : Int)
      · subst e
        rw [updF_same, if_pos (by omega)]
      · rw [updF_other _ _ e, ih.F t]
        by_cases e2 : 2 ≤ t ∧ t < (i : Int) + 2
        · rw [if_pos e2, if_pos (by omega)]
        · rw [if_neg e2, if_neg (by omega)]
theorem take_pend {K0 K : KD} {h : List ByteArray} {X : ByteArray} {n : Nat} (hF : Fresh11 400 K0 h) (hX : X.size = 256) (h1 : 1 ≤ n) (hn : n ≤ 160) (t : Take11 K0 h X n K) : (pendT K).length = n + 1 := by
  have hl := t.run.ok.len
  have e : pendT K = (List.range (n + 1)).map (fun (j : Nat) => (j : Int) + 1) := by
    refine strict_ext _ _ (pendT_rise _) ?_ fun z => ?_
    · rw [List.pairwise_map]
      exact List.pairwise_lt_range.imp (fun h => by omega)
    · rw [pendT_mem, hl, List.mem_map]
      constructor
      · rintro ⟨⟨a1, a2⟩, h2⟩
        unfold dirtyP at h2
        split at h2
        · rename_i e; exact ⟨0, List.mem_range.2 (by omega), by omega⟩
        · have h3 := of_decide_eq_true h2
          rw [t.F z] at h3
          split at h3
          · rename_i h4
            exact ⟨(z - 1).toNat, List.mem_range.2 (by omega), by omega⟩
          · exact absurd rfl h3
      · rintro ⟨j, hj, rfl⟩
        have hj := List.mem_range.1 hj
        refine ⟨by omega, ?_⟩
        unfold dirtyP
        split
        · refine decide_eq_true (fun e => ?_)
          have e2 : roomS K = roomS K0 := e.trans (t.kept.trans hF.kept)
          unfold roomS at e2
          have e3 := roomT_inj t.run.hok hF.run.hok (by omega) (by omega) (by have := bs_inj e2; rw [hl, hF.run.ok.len] at this; exact this)
          rw [t.H, hF.H] at e3
          have e4 := congrArg List.length e3
          rw [rangeI_len] at e4
          simp at e4
          omega
        · rename_i e
          refine decide_eq_true ?_
          rw [t.F, if_pos (by omega)]
          exact size_empty hX
  rw [e, List.length_map, List.length_range]

theorem dst_writes {w0 w : World} {g gd m : Nat} {K : KD} (s : DSt w0 w g gd m K) : Calls Tryz.prog 43 #[.pointer (some ⟨gd, 0, none⟩)] w fun e w' => e = .returned (.int .i64 (K.S.writes : Int)) ∧ w = w' := by
  obtain ⟨gw, _, _, _, O, hd⟩ := s.wal
  exact dwrites_any hd
theorem dst_commits {w0 w : World} {g gd m gw : Nat} {K : KD} (hc : w.cell? ⟨g, 0, none⟩ = some (.pointer (some ⟨gw, 0, none⟩))) (s : DSt w0 w g gd m K) : Calls Tryz.prog 44 #[.pointer (some ⟨gw, 0, none⟩)] w fun e w' => e = .returned (.int .i64 K.k) ∧ w = w' := by
  obtain ⟨gw', e1, e2, _⟩ := s.wal
  rw [hc] at e1
  injection e1 with e1
  injection e1 with e1
  injection e1 with e1
  injection e1 with e1
  subst e1
  exact wcommits_any e2
theorem DSt.drewN {w0 w : World} {g gd m : Nat} {K : KD} (s : DSt w0 w g gd m K) (d : Nat) : DSt w0 (w.drewN d) g gd m K := by
  obtain ⟨P, h1, h2, h3⟩ := s
  exact ⟨P, h1.drewN d, h2, ⟨h3.os, h3.tape, h3.output, h3.size, h3.block⟩⟩
set_option maxRecDepth 100000 in
set_option maxHeartbeats 8000000 in
theorem dlarge_out (n : Int) (w : World) (hn : n < 1 ∨ 160 < n) : Calls Tryz.prog 6 #[.int .i64 n] w fun e w' => e = .returned (.bool true) ∧ Below w.heap.size w w' := by
  have HA := Lib.hid (alive11_any w)
  rcases hn with hn | hn
  · go_enter Tryz.func6, Tryz.ntmps6
    go_wp2_with (go_at_call 8; refine HA.out.mono ?_; rintro e w1 ⟨rfl, hb1⟩)
    go_ret
    exact ⟨rfl, hb1⟩
  · have h1 : ¬ n < 1 := by omega
    go_enter Tryz.func6, Tryz.ntmps6
    go_wp2_with (go_at_call 8; refine HA.out.mono ?_; rintro e w1 ⟨rfl, hb1⟩)
    go_ret
    exact ⟨rfl, hb1⟩
set_option maxRecDepth 100000 in
set_option maxHeartbeats 8000000 in
theorem dlarge_in (n : Nat) (w : World) (h1 : 1 ≤ n) (h2 : n ≤ 160) : Calls Tryz.prog 6 #[.int .i64 (n : Int)] w fun e w' => e = .returned (.bool true) ∧ Below w.heap.size w w' := by
  have HA := Lib.hid (alive11_any w)
  obtain ⟨X, hX⟩ : ∃ X, X = fillB ⟨#[120]⟩ := ⟨_, rfl⟩
  have HXS : Hid (X.size = 256) := Lib.hid (by rw [hX]; exact fillB_size _)
  have HFI : Hid (∀ w1, Calls Tryz.prog 13 #[.string ⟨#[120]⟩] w1 fun e w' => e = .returned (.string X) ∧ Below w1.heap.size w1 w') := Lib.hid (fun w1 => by rw [hX]; exact fill_any _ w1 (by decide))
  clear hX
  have HN : Hid (∀ w1, Calls Tryz.prog 9 #[.int .i64 400] w1 fun e w' => ∃ g O, e = .returned (.tuple #[.pointer (some ⟨g, 0, none⟩), .int .i64 0]) ∧ DiskAt w' O g (DS.fresh 400 (zeroB 256)) ∧ (∀ b ∈ O, w1.heap.size ≤ b) ∧ Below w1.heap.size w1 w') := Lib.hid (fun w1 => dnew_yes 400 400 w1 rfl (by omega) (by omega))
  have HMK : Hid (∀ (w1 : World) (gd : Nat) (O : List Nat), DiskAt w1 O gd (DS.fresh 400 (zeroB 256)) → (∀ b ∈ O, w.heap.size ≤ b) → Below w.heap.size w w1 → Calls Tryz.prog 10 #[.pointer (some ⟨gd, 0, none⟩)] w1 fun e w' => ∃ g K h, e = .returned (.tuple #[.pointer (some ⟨g, 0, none⟩), .int .i64 0]) ∧ DSt w w' g gd 1 K ∧ Fresh11 400 K h) := Lib.hid (fun w1 gd O hd hO hb => (make_any (by omega) w w1 hb hd hO).mono (fun e w' ⟨g, h, he, hs, hf⟩ => ⟨g, _, h, he, hs, hf⟩))
  have h1I : ¬ (n : Int) < 1 := by omega
  have h2I : ¬ (160 : Int) < (n : Int) := by omega
  go_enter Tryz.func6, Tryz.ntmps6
  go_wp2_with fail
  refine HA.out.mono ?_
  rintro e w1 ⟨rfl, hb1⟩
  have HB1 := Lib.hid hb1
  clear hb1 HA
  go_wp2_with fail
  refine (HN.out w1).mono ?_
  rintro e w2 ⟨gd, O, rfl, hd, hO, hb2⟩
  have HF1 := Lib.hid (HMK.out w2 gd O hd (fun b hb => Nat.le_trans HB1.out.size (hO b hb)) (HB1.out.trans (hb2.mono HB1.out.size)))
  clear hd hO hb2 HMK HN HB1
  go_wp2_with fail
  refine HF1.out.mono ?_
  rintro e w3 ⟨g, K, h, rfl, hs2, hf⟩
  have HS2 := Lib.hid hs2
  have HF := Lib.hid hf
  obtain ⟨gw, c0, -, -, -⟩ := hs2.wal
  clear hs2 hf HF1
  go_wp2_with fail
  clear c0
  go_loopw [7] (fun i wr => ∃ (j : Nat), j ≤ n ∧ i = .int .i64 j ∧ DSt w wr g gd (1 + j) (takeK K X j)) (fun i _ => n - (intOf i).toNat)
  case atStart => exact ⟨0, Nat.zero_le _, rfl, HS2.out⟩
  case round =>
    obtain ⟨j, hj, rfl, hs⟩ := hrel
    have HS := Lib.hid hs
    clear hs
    by_cases hlt : j < n
    · have hjI : (j : Int) < (n : Int) := by omega
      have HLT := Lib.hid hlt
      have hjb : (j : Int) < 160 := by omega
      go_wp2_with fail
      refine (HFI.out _).mono ?_
      rintro e w4 ⟨rfl, hb4⟩
      have HT := Lib.hid (takes_any HF.out HXS.out j (by omega))
      have HNW : Hid (Calls Tryz.prog 16 #[.pointer (some ⟨g, 0, none⟩), .string X] w4 fun e w' => e = .returned (.tuple #[.int .i64 (2 + (j : Int)), .int .i64 0]) ∧ DSt w w' g gd (1 + (j + 1)) (takeK K X (j + 1))) := Lib.hid (by
        have := dst_new (HS.out.below hb4) HT.out.run (by omega) (k := 2 + j) (by rw [HT.out.H, Nat.add_comm j 2]; exact rangeI_least _) (by omega) HXS.out
        rw [show ((2 + j : Nat) : Int) = 2 + (j : Int) by omega] at this
        exact this)
      clear hb4 HS HT
      go_wp2_with fail
      refine HNW.out.mono ?_
      rintro e w5 ⟨rfl, hs5⟩
      have HS5 := Lib.hid hs5
      clear hs5 HNW
      go_wp2_with fail
      go_roundw
      case rel => exact ⟨j + 1, HLT.out, by go_num, HS5.out⟩
      case measure => have := HLT.out; simp [intOf]; omega
    · obtain rfl : j = n := by omega
      have HT := Lib.hid (takes_any HF.out HXS.out j h2)
      have HPL := Lib.hid (take_pend HF.out HXS.out h1 h2 HT.out)
      obtain ⟨K2, hK2⟩ : ∃ K2, K2 = takeK K X j := ⟨_, rfl⟩
      rw [← hK2] at HS HT HPL
      obtain ⟨WN, hWN⟩ : ∃ WN, WN = K2.S.writes := ⟨_, rfl⟩
      obtain ⟨CN, hCN⟩ : ∃ CN, CN = K2.k := ⟨_, rfl⟩
      have HWB : Hid (WN ≤ 2000) := Lib.hid (by
        obtain ⟨s0, s, d, n, e, hs, hn, hd⟩ := HT.out.run.still
        rw [hWN, e]
        show n ≤ _
        omega)
      have HCB : Hid (0 ≤ CN ∧ CN ≤ 2) := Lib.hid (by rw [hCN]; exact HT.out.run.kk)
      have hwb : (WN : Int) ≤ 2000 := by have := HWB.out; omega
      have hcb0 : 0 ≤ CN := HCB.out.1
      have hcb1 : CN ≤ 2 := HCB.out.2
      obtain ⟨gw, c0, -, -, -⟩ := HS.out.wal
      have HQ1 : Hid (∀ d, Calls Tryz.prog 43 #[.pointer (some ⟨gd, 0, none⟩)] (wr.drewN d) fun e w' => e = .returned (.int .i64 (WN : Int)) ∧ w' = wr.drewN d) := Lib.hid (fun d => by
        have := dst_writes (HS.out.drewN d)
        rw [← hWN] at this
        exact this.mono fun e w' ⟨h1, h2⟩ => ⟨h1, h2.symm⟩)
      have HQ2 : Hid (∀ d, Calls Tryz.prog 44 #[.pointer (some ⟨gw, 0, none⟩)] (wr.drewN d) fun e w' => e = .returned (.int .i64 CN) ∧ w' = wr.drewN d) := Lib.hid (fun d => by
        have := dst_commits (w := wr.drewN d) (K := K2) c0 (HS.out.drewN d)
        rw [← hCN] at this
        exact this.mono fun e w' ⟨h1, h2⟩ => ⟨h1, h2.symm⟩)
      have HWN := Lib.hid hWN
      have HCN := Lib.hid hCN
      clear hWN hCN hK2
      have HSY : Hid (∀ d, Calls Tryz.prog 26 #[.pointer (some ⟨g, 0, none⟩)] (wr.drewN d) fun e w' => e = .returned (.int .i64 (syncE K2)) ∧ DSt w w' g gd (1 + j) (syncK K2)) := Lib.hid (fun d => dst_sync (HS.out.drewN d) HT.out.run (by omega) (by omega))
      by_cases hbig : 110 < j + 1
      · have hbI : (110 : Int) < (j : Int) + 1 := by omega
        have e1 : syncE K2 = 21 := by unfold syncE; rw [if_pos (by rw [pendL_length, HPL.out]; exact hbig)]
        have e2 : syncK K2 = K2 := by unfold syncK; rw [if_pos (by rw [pendL_length, HPL.out]; exact hbig)]
        rw [e1, e2] at HSY
        clear e1 e2
        go_wp2_with fail
        go_quiet (first | (go_at_call 43; with_reducible refine Calls.quiet_of_same (HQ1.out _)) | (go_at_call 44; with_reducible refine Calls.quiet_of_same (HQ2.out _)))
        go_wp2_with fail
        refine (HSY.out _).mono ?_
        rintro e w6 ⟨rfl, hs6⟩
        have HS6 := Lib.hid hs6
        have HW6 := Lib.hid (dst_writes hs6)
        rw [← HWN.out] at HW6
        have HD6 := Lib.hid (dst_dirty hs6 HT.out.run (by omega))
        rw [HPL.out] at HD6
        clear hs6 HSY HQ1 HQ2 c0
        go_wp2_with fail
        refine HW6.out.mono ?_
        rintro e w7 ⟨rfl, rfl⟩
        go_wp2_with fail
        refine HD6.out.mono ?_
        rintro e w8 ⟨A, c, rfl, -, hb8⟩
        have HS8 := Lib.hid (HS6.out.below hb8)
        have HB8 := Lib.hid (dst_bad HS8.out HT.out.run)
        clear hb8 HD6 HW6 HS6
        go_wp2_with fail
        refine HB8.out.mono ?_
        rintro e w9 ⟨rfl, hw9⟩
        have hw9' := hw9.symm
        clear hw9
        subst hw9'
        go_wp2_with fail
        go_ret
        refine ⟨?_, HS8.out.at0⟩
        simp
      · have hbI : ¬ (110 : Int) < (j : Int) + 1 := by omega
        have HSS := Lib.hid (HT.out.run.sync (by omega) (by rw [pendL_length, HPL.out]; omega))
        rw [HSS.out.1] at HSY
        have HNE : Hid (pendT K2 ≠ []) := Lib.hid (fun e => by have := HPL.out; rw [e] at this; simp at this)
        have HK3 : Hid ((syncK K2).S.writes = WN + (2 * (j + 1) + 2) ∧ (syncK K2).k = CN + 1) := Lib.hid (by
          obtain ⟨_, _, _, _, _, _, h7⟩ := HSS.out
          have := h7 HNE.out
          rw [HPL.out, ← HWN.out, ← HCN.out] at this
          exact this)
        have HR3 := Lib.hid HSS.out.2.1
        have HP3 := Lib.hid HSS.out.2.2.1
        obtain ⟨K3, hK3⟩ : ∃ K3, K3 = syncK K2 := ⟨_, rfl⟩
        rw [← hK3] at HSY HK3 HR3 HP3
        clear HSS hK3
        go_wp2_with fail
        go_quiet (first | (go_at_call 43; with_reducible refine Calls.quiet_of_same (HQ1.out _)) | (go_at_call 44; with_reducible refine Calls.quiet_of_same (HQ2.out _)))
        go_wp2_with fail
        refine (HSY.out _).mono ?_
        rintro e w6 ⟨rfl, hs6⟩
        have HS6 := Lib.hid hs6
        have HD6 := Lib.hid (dst_dirty hs6 HR3.out (by omega))
        rw [HP3.out] at HD6
        clear hs6 HSY HQ1 HQ2 c0
        go_wp2_with fail
        refine HD6.out.mono ?_
        rintro e w8 ⟨A, c, rfl, -, hb8⟩
        have HS8 := Lib.hid (HS6.out.below hb8)
        obtain ⟨gw8, c8, -, -, -⟩ := HS8.out.wal
        have HC8 := Lib.hid (dst_commits c8 HS8.out)
        rw [HK3.out.2] at HC8
        have HW8 : Hid (Calls Tryz.prog 43 #[.pointer (some ⟨gd, 0, none⟩)] w8 fun e w' => e = .returned (.int .i64 ((WN : Int) + (2 * ((j : Int) + 1) + 2))) ∧ w8 = w') := Lib.hid (by
          have := dst_writes HS8.out
          rw [HK3.out.1, show ((WN + (2 * (j + 1) + 2) : Nat) : Int) = (WN : Int) + (2 * ((j : Int) + 1) + 2) by omega] at this
          exact this)
        clear hb8 HD6 HS6
        go_wp2_with fail
        refine HC8.out.mono ?_
        rintro e w9 ⟨rfl, rfl⟩
        go_wp2_with fail
        refine HW8.out.mono ?_
        rintro e w9 ⟨rfl, rfl⟩
        go_wp2_with fail
        go_ret
        refine ⟨?_, HS8.out.at0⟩
        simp
        try omega
set_option maxRecDepth 100000 in
theorem dlarge_any (n : Int) (w : World) : Calls Tryz.prog 6 #[.int .i64 n] w fun e w' => e = .returned (.bool true) ∧ Below w.heap.size w w' := by
  by_cases h : n < 1 ∨ 160 < n
  · exact dlarge_out n w h
  · obtain ⟨m, rfl⟩ : ∃ m : Nat, n = (m : Int) := ⟨n.toNat, by omega⟩
    exact dlarge_in m w (by omega) (by omega)
theorem dlarge_card (n : Int) (w : World) (_ : -9223372036854775808 ≤ n ∧ n ≤ 9223372036854775807) : Calls Tryz.prog 6 #[.int .i64 n] w fun e w' => e = .returned (.bool true) ∧ Below w.heap.size w w' := dlarge_any n w
end Go.Proofs.YtdibeieiogagoaaGreatDoor
