/-
  WalCosts: the law's walk. No statement is proved here.
-/
import Derived.Test.YtnpmeolibdjgpaaGreatDoorWalRound
import Derived.Deep.AppendLies
namespace Go.Proofs.YtnpmeolibdjgpaaGreatDoor
open Go.RowKit

def costL : Nat → List Int → List Wr1
  | _, [] => []
  | k, y :: r => ((atK y : Int), roundB (k % 20)) :: costL (k + 1) r
theorem costL_snoc (y : Int) : ∀ (l : List Int) (k : Nat), costL k (l ++ [y]) = costL k l ++ [((atK y : Int), roundB ((k + l.length) % 20))]
  | [], k => by simp [costL]
  | z :: r, k => by
    simp only [List.cons_append, costL, costL_snoc y r (k + 1), List.length_cons]
    rw [show k + 1 + r.length = k + (r.length + 1) by omega]
theorem costL_len : ∀ (l : List Int) (k : Nat), (costL k l).length = l.length
  | [], _ => rfl
  | y :: r, k => by simp [costL, costL_len r (k + 1)]
theorem costL_fst : ∀ (l : List Int) (k : Nat), (costL k l).map Prod.fst = l.map fun y => (atK y : Int)
  | [], _ => rfl
  | y :: r, k => by simp [costL, costL_fst r (k + 1)]
theorem costL_ref : ∀ (l : List Int) (k : Nat), refE 89 (costL k l) = 0
  | [], _ => rfl
  | y :: r, k => by
    have := atK_lt y
    simp only [costL, refE]
    rw [if_pos ⟨by omega, by omega⟩, if_pos (roundB_size _)]
    exact costL_ref r (k + 1)
theorem set_off {w : World} {base n m g : Nat} {e : TypeId} {v : Value} {xs : List Value} {L : List Int} {sz : Nat} (h : w.ownsRow base e sz v n xs) (hs : SetIs w g m L) : v.ownBlock ≠ some g := fun hb => by
  obtain ⟨D, ⟨es, clock, h1, _⟩, _⟩ := hs
  rcases h.2 with ⟨rfl, _⟩ | ⟨g', cap, cur, rfl, _, hg, _⟩
  · cases hb
  · injection hb with hb
    have hb : g' = g := hb
    subst hb
    rw [h1] at hg
    cases hg
/-- The commit of places that were drawn. -/
theorem costs_commit (s : List ByteArray) (hs : s.length = 200) (l : List Int) (hl : l.length ≤ 60) (h0 : 0 < l.length) :
    commitR (calm s 0) 0 0 (costL 0 l) = ⟨calm (doneS s 0 (costL 0 l) (putOnce (l.map fun y => (atK y : Int)))) (0 + (2 * (putOnce (l.map fun y => (atK y : Int))).length + 2)), 1, true, 1, 0⟩ := by
  have hok : CommitOk 200 0 (costL 0 l) (putOnce (l.map fun y => (atK y : Int))) := by
    refine ⟨by rw [costL_fst], by omega, ?_, by rw [costL_len]; exact h0, costL_ref l 0, by omega⟩
    have := (putOnce_ok (l := l.map fun y => (atK y : Int)) (fun x hx => by
      obtain ⟨y, _, rfl⟩ := List.mem_map.1 hx
      have := atK_lt y
      omega)).2.2
    rw [List.length_map] at this
    omega
  have := hok.run s hs 0 0
  exact this

set_option maxRecDepth 100000 in
set_option maxHeartbeats 4000000 in
theorem wcosts_in (A : Option Addr) (m c : Nat) (l : List Int) (w : World) (hm : l.length = m) (hA : Ints w w.heap.size A l) (h60 : m ≤ 60) :
    Calls Tryz.prog 7 #[.slice A m c] w fun e w' => e = .returned (.bool true) ∧ Below w.heap.size w w' := by
  obtain ⟨s, hse⟩ : ∃ s, s = List.replicate 200 (zeroB 256) := ⟨_, rfl⟩
  have hsl : s.length = 200 := by rw [hse, List.length_replicate]
  have hs0 : s[0]? = some (zeroB 256) := by rw [hse, List.getElem?_replicate, if_pos (by omega)]
  have hsz : ∀ x ∈ s, x.size = 256 := fun x hx => by rw [hse] at hx; rw [List.eq_of_mem_replicate hx, zeroB_size]
  have HN : Hid (∀ W, Calls Tryz.prog 26 #[.int .i64 200] W fun e w' => ∃ g O, e = .returned (.tuple #[.pointer (some ⟨g, 0, none⟩), .int .i64 0]) ∧ DiskAt w' O g (calm s 0) ∧ (∀ b ∈ O, W.heap.size ≤ b) ∧ Below W.heap.size W w') := Lib.hid (fun W => by
    rw [hse]
    exact dnew_yes 200 200 W rfl (by omega) (by omega))
  have HO1 : Hid (∀ W O g, DiskAt W O g (calm s 0) → Calls Tryz.prog 27 #[.pointer (some ⟨g, 0, none⟩)] W fun e w' => ∃ gw, e = .returned (.tuple #[.pointer (some ⟨gw, 0, none⟩), .int .i64 0]) ∧ Blk w' gw 128 (walC g 0 true 0) ∧ W.heap.size ≤ gw ∧ Below W.heap.size W w') := Lib.hid (fun W O g hd => wopen_plain hd (fun x hx => by have := hsz x hx; omega) rfl (by show 0 < s.length; omega) (calm_read (n := 0) hs0).1 read_zero)
  obtain ⟨R, hR⟩ : ∃ R, R = commitR (calm s 0) 0 0 (costL 0 l) := ⟨_, rfl⟩
  obtain ⟨T, hT⟩ : ∃ T, T = putOnce (l.map fun y => (atK y : Int)) := ⟨_, rfl⟩
  obtain ⟨tn, htn⟩ : ∃ tn, tn = T.length := ⟨_, rfl⟩
  have HR0 : Hid (m = 0 → R = ⟨calm s 0, 0, true, 0, 0⟩) := Lib.hid (fun h => by
    have : l = [] := List.eq_nil_of_length_eq_zero (by omega)
    subst this
    rw [hR]
    rfl)
  have HR1 : Hid (0 < m → ∃ t, R = ⟨calm t (2 * tn + 2), 1, true, 1, 0⟩) := Lib.hid (fun h => by
    rw [hR, costs_commit s hsl l (by omega) (by omega), ← hT, ← htn, Nat.zero_add]
    exact ⟨_, rfl⟩)
  have HC : Hid (∀ W O g gw B cb base, Blk W gw 128 (walC g 0 true 0) → DiskAt W O g (calm s 0) → gw ∉ O → W.ownsRow base 71 2 (.slice B m cb) m (flatI (costL 0 l)) → (∀ b ∈ O, b < base) → Calls Tryz.prog 31 #[.pointer (some ⟨gw, 0, none⟩), .slice B m cb] W fun e w' => e = .returned (.int .i64 R.e) ∧ WTurns O gw g R W w') := Lib.hid (fun W O g gw B cb base h1 h2 h3 h4 h5 => by
    rw [hR]
    exact wcommit_any B (costL 0 l) h1 h2 (calm_ok s 0) h3 (by show 111 ≤ s.length; omega) (by show s.length ≤ 2000; omega) ⟨by omega, by omega⟩ ⟨by omega, by omega⟩ (by rw [costL_len]; exact hm) (row_wrts h4 h5) (by omega) (show (0 : Nat) ≤ 9223372036854775807 by decide) (show (0 : Nat) < 900000000000 by decide) (show (0 : Nat) < 900000000000 by decide))
  have HAL := Lib.hid (alive9_any)
  have HM := Lib.hid hm
  have HAI := Lib.hid hA
  have HTE := Lib.hid hT
  have HTN := Lib.hid htn
  have h60I : (m : Int) ≤ 60 := by omega
  have HTM : Hid (tn ≤ 60) := Lib.hid (by
    have := (putOnce_ok (l := l.map fun y => (atK y : Int)) (fun x hx => by
      obtain ⟨y, _, rfl⟩ := List.mem_map.1 hx
      have := atK_lt y
      omega)).2.2
    rw [← hT, ← htn, List.length_map, hm] at this
    omega)
  obtain ⟨i1, hi1, hy0, hy1, hy2⟩ := info_parts clwrites_info
  have HI1 := Lib.hid hi1
  have hmm := @run_makeMap Tryz.prog
  clear hse hsl hs0 hsz hm hA hT htn hR hi1
  go_enter Tryz.func7, Tryz.ntmps7
  go_wp2_with fail
  refine (HAL.out _).mono ?_
  rintro e w1 ⟨rfl, hb1⟩
  have HB1 := Lib.hid hb1
  clear hb1
  go_wp2_with fail
  refine (HN.out _).mono ?_
  rintro e w2 ⟨g, O, rfl, hd, hO, hb2⟩
  have HD2 := Lib.hid hd
  have HO2 := Lib.hid (fun b hb => Nat.le_trans HB1.out.size (hO b hb))
  have HB2 := Lib.hid (HB1.out.trans (hb2.mono HB1.out.size))
  clear hd hO hb2
  go_wp2_with fail
  refine (HO1.out _ _ _ HD2.out).mono ?_
  rintro e w3 ⟨gw, rfl, hw, hgw, hb3⟩
  have HW3 := Lib.hid hw
  have HD3 := Lib.hid (HD2.out.below hb3)
  have HB3 := Lib.hid (HB2.out.trans (hb3.mono HB2.out.size))
  have HGN : Hid (gw ∉ O) := Lib.hid (fun hm => by have := HD2.out.lt hm; omega)
  have HGW : Hid (w.heap.size ≤ gw) := Lib.hid (Nat.le_trans HB2.out.size hgw)
  clear hw hgw hb3 HD2 HB2
  go_upto_region 10 with fail
  obtain ⟨w4, hw4⟩ : ∃ w4, w4 = w3.alloc (.map #[] 0) := ⟨_, rfl⟩
  obtain ⟨gm, hgm⟩ : ∃ gm, gm = w3.heap.size := ⟨_, rfl⟩
  rw [← hw4, ← hgm]
  have HS4 : Hid (SetIs w4 gm 0 []) := Lib.hid (by rw [hw4, hgm]; exact SetIs.made w3)
  have HB34 : Hid (Below w3.heap.size w3 w4) := Lib.hid (by rw [hw4]; exact (Below.refl _ _).alloc (Nat.le_refl _) _)
  have HGM : Hid (w3.heap.size ≤ gm) := Lib.hid (by omega)
  clear hw4 hgm hmm
  go_wp2_with fail
  go_loopw [8, 9] (fun x i wr => ∃ (j : Nat) (B : Option Addr) (cb : Nat), j ≤ m ∧ i = .int .i64 j ∧ x = .slice B j cb ∧ wr.ownsRow w3.heap.size 71 2 (.slice B j cb) j (flatI (costL 0 (l.take j))) ∧ SetIs wr gm j (((l.take j).map fun y => (atK y : Int)).foldl (fun a x => putL x a) []) ∧ Below w3.heap.size w3 wr) (fun _ i _ => m - (intOf i).toNat)
  case atStart => exact ⟨0, none, 0, Nat.zero_le _, rfl, rfl, World.ownsRow_nil _ _ _ _, HS4.out, HB34.out⟩
  case round =>
    obtain ⟨j, B, cb, hj, rfl, rfl, hrow, hset, hbw⟩ := hrel
    have HROW := Lib.hid hrow
    have HSET := Lib.hid hset
    have HBW := Lib.hid hbw
    clear hrow hset hbw HS4 HB34
    by_cases hlt : j < m
    · have hjl : j < l.length := by rw [HM.out]; exact hlt
      obtain ⟨b, off, rfl, hbb, hc⟩ := HAI.out (by omega)
      obtain ⟨y, hy⟩ : ∃ y, y = l[j] := ⟨_, rfl⟩
      have hyj : l[j]? = some y := by rw [hy]; exact List.getElem?_eq_getElem hjl
      have hcy : wr.cell? ⟨b, off + j, none⟩ = some (.int .i64 y) := by
        rw [HBW.out.cell (p := ⟨b, off + j, none⟩) (Nat.lt_of_lt_of_le hbb HB3.out.size), HB3.out.cell (p := ⟨b, off + j, none⟩) hbb]
        exact hc j y hyj
      obtain ⟨t, ht1, ht2, ht3, ht4, ht5⟩ := atK_steps y
      obtain ⟨q, hq⟩ : ∃ q, q = atK y := ⟨_, rfl⟩
      have hq80 : q < 80 := by rw [hq]; exact atK_lt y
      rw [← hq] at ht4 ht5
      obtain ⟨r, hr⟩ : ∃ r, r = j % 20 := ⟨_, rfl⟩
      have hr20 : r < 20 := by omega
      have hj1 : (j : Int) % 20 = (r : Int) := by omega
      have hj2 : (j : Int).tmod 20 = (r : Int) := by rw [Int.tmod_eq_emod_of_nonneg (by omega)]; exact hj1
      have HCN : Hid (costL 0 (l.take (j + 1)) = costL 0 (l.take j) ++ [((q : Int), roundB r)]) := Lib.hid (by
        rw [List.take_add_one, hyj, hq, hr]
        have := costL_snoc y (l.take j) 0
        rw [show 0 + (l.take j).length = j by rw [List.length_take]; omega] at this
        exact this)
      have HLN : Hid (((l.take (j + 1)).map fun y => (atK y : Int)).foldl (fun a x => putL x a) [] = putL (q : Int) (((l.take j).map fun y => (atK y : Int)).foldl (fun a x => putL x a) [])) := Lib.hid (by
        rw [List.take_add_one, hyj, hq, List.map_append, List.foldl_append]
        rfl)
      have HST : Hid ((((l.take j).map fun y => (atK y : Int)).foldl (fun a x => putL x a) []).Pairwise (· < ·)) := Lib.hid (putAll_spec _ [] List.Pairwise.nil).1
      have HRND : Hid (∀ W, Calls Tryz.prog 45 #[.int .i64 (r : Int)] W fun e w' => e = .returned (.string (roundB r)) ∧ Below W.heap.size W w') := Lib.hid (fun W => round_any r W (by omega))
      obtain ⟨D, hD⟩ : ∃ D, D = roundB r := ⟨_, rfl⟩
      rw [← hD] at HRND HCN
      have hjI : (j : Int) < (m : Int) := by omega
      obtain ⟨w5, hrun, hset5, hg5⟩ := HSET.out.update (by omega) HST.out (k := (q : Int)) (by omega) (by omega)
      have HSET5 : Hid (SetIs w5 gm (j + 1) (((l.take (j + 1)).map fun y => (atK y : Int)).foldl (fun a x => putL x a) [])) := Lib.hid (by rw [HLN.out]; exact hset5)
      have HROW5 : Hid (w5.ownsRow w3.heap.size 71 2 (.slice B j cb) j (flatI (costL 0 (l.take j)))) := Lib.hid (row_kept' HROW.out (fun b hb => hg5.block b (HROW.out.lt b hb).2 (fun e => by injection e with e; exact set_off HROW.out HSET.out (by rw [hb, e]))))
      have HBW5 : Hid (Below w3.heap.size w3 w5) := Lib.hid (HBW.out.grown hg5 HBW.out.size (fun k e => by injection e with e; have := HGM.out; omega))
      clear hc hy hyj hjl hbb hq hr hD hset5 hg5
      go_upto_region 16 with fail
      clear hrun hcy ht1 ht2 ht3 ht4 ht5
      go_wp2_with fail
      refine (HRND.out _).mono ?_
      rintro e w6 ⟨rfl, hb6⟩
      have HSET6 := Lib.hid (HSET5.out.below hb6)
      have HROW6 := Lib.hid (row_below HROW5.out hb6)
      have HBW6 := Lib.hid (HBW5.out.trans (hb6.mono HBW5.out.size))
      clear hb6
      go_wp2_with (at_builtin; refine wpList_append_lies _ rfl (.tmp 57) (.tmp 63) 67 rfl w3.heap.size 71 i1 (.agg #[.int .i64 0, .string .empty]) 2 24 Tryz.underlying67 HI1.out hy0 hy1 hy2 rfl (by omega) _ j _ rfl (HROW6.out.alloc _) ⟨w6.heap.size, 0, none⟩ 1 1 [.int .i64 (q : Int), .string D] rfl rfl ?c1 ?c2 (by omega) (by unfold maxLen; omega) (by omega) (by have := HBW6.out.size; simp; omega) _ rfl ?_)
      case c1 =>
        intro a u ha
        match a, ha with
        | 0, ha => simp at ha; subst ha; simp [Addr.add]
        | 1, ha => simp at ha; subst ha; simp [Addr.add]
      case c2 => intro u hu; simp at hu; rcases hu with rfl | rfl <;> rfl
      intro g2 cap2 wB hownB hgB horB hltB
      have HSB : Hid ((w6.alloc (.cells #[.int .i64 (q : Int), .string D] 71)).heap.size = w6.heap.size + 1) := Lib.hid (by simp)
      have HRB : Hid (wB.ownsRow w3.heap.size 71 2 (.slice (some ⟨g2, 0, none⟩) (j + 1) cap2) (j + 1) (flatI (costL 0 (l.take (j + 1))))) := Lib.hid (by rw [HCN.out, flatI_snoc]; exact hownB)
      have HSETB : Hid (SetIs wB gm (j + 1) (((l.take (j + 1)).map fun y => (atK y : Int)).foldl (fun a x => putL x a) [])) := Lib.hid (HSET6.out.kept ((hgB.block gm (by rw [HSB.out]; have := HSET6.out.lt; omega) (fun e => set_off HROW6.out HSET6.out e.symm)).trans (Below.heap_alloc _ _ _ HSET6.out.lt)))
      have HBWB : Hid (Below w3.heap.size w3 wB) := Lib.hid ((HBW6.out.alloc HBW6.out.size _).grown hgB (by rw [HSB.out]; have := HBW6.out.size; omega) (fun q e => (HROW6.out.lt q e).1))
      clear hownB hgB horB hltB
      go_wp2_with fail
      go_roundw
      case rel => exact ⟨j + 1, some ⟨g2, 0, none⟩, cap2, by omega, by go_num, rfl, HRB.out, HSETB.out, HBWB.out⟩
      case measure => simp [intOf]; omega
    · obtain rfl : m = j := by omega
      have HTK : Hid (l.take m = l) := Lib.hid (List.take_of_length_le (by rw [HM.out]; exact Nat.le_refl _))
      have hrow := HROW.out
      have hset := HSET.out
      rw [HTK.out] at hrow hset
      rw [putAll_once, ← HTE.out] at hset
      have HROWE := Lib.hid hrow
      have HSETE := Lib.hid hset
      have HDR := Lib.hid (HD3.out.below HBW.out)
      have HWR := Lib.hid (HW3.out.below HBW.out HW3.out.lt)
      have HWRI : Hid (Calls Tryz.prog 46 #[.pointer (some ⟨g, 0, none⟩)] wr fun e w' => e = .returned (.int .i64 0) ∧ wr = w') := Lib.hid (dwrites_any HDR.out)
      clear hrow hset hlt hj
      go_wp2_with (go_at_call 46; refine HWRI.out.mono ?_; rintro e w7 ⟨rfl, rfl⟩)
      refine (HC.out _ _ _ _ _ _ _ HWR.out HDR.out HGN.out HROWE.out (fun b hb => HD3.out.lt hb)).mono ?_
      rintro e w8 ⟨rfl, O8, d1, d2, d3, d4⟩
      have HB8 : Hid (Below w.heap.size w w8) := Lib.hid ((HB3.out.trans (HBW.out.mono HB3.out.size)).trans (d3.below (fun b hb => by
        rcases List.mem_cons.1 hb with rfl | hb
        · exact HGW.out
        · exact HO2.out b hb) (Nat.le_trans HB3.out.size HBW.out.size)))
      have HSET8 : Hid (SetIs w8 gm m T) := Lib.hid (HSETE.out.kept (d3.block gm HSETE.out.lt (fun hm => by
        have h1 := HGM.out
        rcases List.mem_cons.1 hm with e | hm
        · have := HW3.out.lt; omega
        · have := HD3.out.lt hm; omega)))
      clear d2 d3
      by_cases hm0 : m = 0
      · subst hm0
        have hR := HR0.out rfl
        rw [hR] at d1 d4 ⊢
        simp only at d1 d4 ⊢
        have HD8 := Lib.hid d1
        have HW8 := Lib.hid d4
        clear d1 d4 hR
        have HWR8 : Hid (Calls Tryz.prog 46 #[.pointer (some ⟨g, 0, none⟩)] w8 fun e w' => e = .returned (.int .i64 0) ∧ w8 = w') := Lib.hid (dwrites_any HD8.out)
        have HDT8 : Hid (Calls Tryz.prog 47 #[.pointer (some ⟨g, 0, none⟩)] w8 fun e w' => e = .returned (.int .i64 0) ∧ w8 = w') := Lib.hid (ddirty_any HD8.out)
        go_wp2_with (first
          | (go_at_call 47; refine HDT8.out.mono ?_; rintro e w9 ⟨rfl, rfl⟩)
          | (go_at_call 46; refine HWR8.out.mono ?_; rintro e w9 ⟨rfl, rfl⟩)
          | (go_at_call 34; refine (wseq_any HW8.out).mono ?_; rintro e w9 ⟨rfl, rfl⟩)
          | (go_at_call 43; refine (wcommits_any HW8.out).mono ?_; rintro e w9 ⟨rfl, rfl⟩))
        go_ret
        exact ⟨rfl, HB8.out⟩
      · have hmp : 0 < m := by omega
        obtain ⟨t, hR⟩ := HR1.out hmp
        rw [hR] at d1 d4 ⊢
        simp only at d1 d4 ⊢
        have HD8 := Lib.hid d1
        have HW8 := Lib.hid d4
        have HWR8 : Hid (Calls Tryz.prog 46 #[.pointer (some ⟨g, 0, none⟩)] w8 fun e w' => e = .returned (.int .i64 (2 * (tn : Int) + 2)) ∧ w8 = w') := Lib.hid (by
          have := dwrites_any HD8.out
          rw [show (((calm t (2 * tn + 2)).writes : Nat) : Int) = 2 * (tn : Int) + 2 by show ((2 * tn + 2 : Nat) : Int) = _; omega] at this
          exact this)
        have HDT8 : Hid (Calls Tryz.prog 47 #[.pointer (some ⟨g, 0, none⟩)] w8 fun e w' => e = .returned (.int .i64 0) ∧ w8 = w') := Lib.hid (ddirty_any HD8.out)
        obtain ⟨D, hD1, hD2, -⟩ := HSET8.out
        rw [← HTN.out] at hD2
        have HOWN := Lib.hid hD1
        have HSZD := Lib.hid hD2
        have htm := HTM.out
        have htI : (tn : Int) ≤ 60 := by omega
        have hmI : ((m : Int) == 0) = false := by simp; omega
        clear d1 d4 hR hD1 hD2 htm hm0
        go_upto_region 22 with (first
          | (go_at_call 47; refine HDT8.out.mono ?_; rintro e w9 ⟨rfl, rfl⟩))
        go_wp2_with (first
          | (at_len; refine wpList_len_own _ rfl (.tmp 96) 88 rfl 3 4 Tryz.underlying88 _ gm m D rfl HOWN.out ?_; rw [HSZD.out])
          | (go_at_call 46; refine HWR8.out.mono ?_; rintro e w9 ⟨rfl, rfl⟩)
          | (go_at_call 34; refine (wseq_any HW8.out).mono ?_; rintro e w9 ⟨rfl, rfl⟩)
          | (go_at_call 43; refine (wcommits_any HW8.out).mono ?_; rintro e w9 ⟨rfl, rfl⟩))
        go_ret
        exact ⟨rfl, HB8.out⟩

set_option maxRecDepth 100000 in
set_option maxHeartbeats 1000000 in
theorem wcosts_full (A : Option Addr) (m c : Nat) (l : List Int) (w : World) (hm : l.length = m) (hA : Ints w w.heap.size A l) :
    Calls Tryz.prog 7 #[.slice A m c] w fun e w' => e = .returned (.bool true) ∧ Below w.heap.size w w' := by
  by_cases h60 : m ≤ 60
  · exact wcosts_in A m c l w hm hA h60
  · have hmI : (60 : Int) < (m : Int) := by omega
    have HAL := Lib.hid (alive9_any)
    clear hm hA
    go_enter Tryz.func7, Tryz.ntmps7
    go_wp2_with fail
    refine (HAL.out _).mono ?_
    rintro e w1 ⟨rfl, hb1⟩
    go_wp2_with fail
    go_ret
    exact ⟨rfl, hb1⟩
end Go.Proofs.YtnpmeolibdjgpaaGreatDoor
