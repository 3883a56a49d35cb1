/-
  DeskSpoilt: the law. No statement is proved here.
-/
import Derived.Test.YtdibeieiogagoaaGreatDoorDeskSpoiltWalk
import Derived.Test.YtdibeieiogagoaaGreatDoorBookMark
import Derived.Test.YtdibeieiogagoaaGreatDoorRoomMake
namespace Go.Proofs.YtdibeieiogagoaaGreatDoor
open Go.RowKit

theorem DSt.disk {w0 w : World} {g gd m : Nat} {K : KD} (s : DSt w0 w g gd m K) : ∃ O, DiskAt w O gd K.S ∧ ∀ b ∈ O, w0.heap.size ≤ b := by
  obtain ⟨P, ⟨gw, gm, gr, O, rfl, hd⟩, h2, h3⟩ := s
  exact ⟨O, hd.disk, fun b hb => h2 b (by simp [hb])⟩
theorem dst_room {w0 w : World} {g gd m N c : Nat} {K : KD} {h : List ByteArray} (s : DSt w0 w g gd m K) (r : Run11 N K h c) : Calls Tryz.prog 38 #[.pointer (some ⟨g, 0, none⟩)] w fun e w' => e = .returned (.pointer (some ⟨w.heap.size, 0, none⟩)) ∧ RoomAt w' w.heap.size (N - 111) K.H ∧ Below w.heap.size w w' := by
  obtain ⟨P, h1, h2, h3⟩ := s
  have := kroom_any h1
  rw [r.ok.len] at this
  exact this
set_option maxRecDepth 100000 in
set_option maxHeartbeats 4000000 in
theorem dspoilt_out_any (n a : Int) (s : ByteArray) (w : World) (hs : s.size ≤ 140737488355328) (h : n < 140 ∨ 200 < n ∨ 60 < s.size) : Calls Tryz.prog 4 #[.int .i64 n, .int .i64 a, .string s] w fun e w' => e = .returned (.bool true) ∧ Below w.heap.size w w' := by
  have HA := Lib.hid (alive11_any w)
  have HSB := Lib.hid hs
  clear hs
  by_cases h1 : n < 140
  · clear h
    go_enter Tryz.func4, Tryz.ntmps4
    go_wp2_with (go_at_call 8; refine HA.out.mono ?_; rintro e w1 ⟨rfl, hb1⟩)
    go_ret
    exact ⟨rfl, hb1⟩
  · by_cases h2 : 200 < n
    · clear h
      go_enter Tryz.func4, Tryz.ntmps4
      go_wp2_with (go_at_call 8; refine HA.out.mono ?_; rintro e w1 ⟨rfl, hb1⟩)
      go_ret
      exact ⟨rfl, hb1⟩
    · have h3 : (60 : Int) < (s.size : Int) := by omega
      clear h
      go_enter Tryz.func4, Tryz.ntmps4
      go_wp2_with (go_at_call 8; refine HA.out.mono ?_; rintro e w1 ⟨rfl, hb1⟩)
      go_ret
      exact ⟨rfl, hb1⟩
set_option maxRecDepth 100000 in
set_option maxHeartbeats 16000000 in
theorem dspoilt_in (N : Nat) (a : Int) (s : ByteArray) (w : World) (hN : 140 ≤ N ∧ N ≤ 200) (hs : s.size ≤ 60) : Calls Tryz.prog 4 #[.int .i64 (N : Int), .int .i64 a, .string s] w fun e w' => e = .returned (.bool true) ∧ Below w.heap.size w w' := by
  have HA := Lib.hid (alive11_any w)
  have HDN : Hid (∀ w1, Calls Tryz.prog 9 #[.int .i64 (N : Int)] w1 fun e w' => ∃ g O, e = .returned (.tuple #[.pointer (some ⟨g, 0, none⟩), .int .i64 0]) ∧ DiskAt w' O g (DS.fresh N (zeroB 256)) ∧ (∀ b ∈ O, w1.heap.size ≤ b) ∧ Below w1.heap.size w1 w') := Lib.hid (fun w1 => dnew_yes (N : Int) N w1 rfl (by omega) (by omega))
  have hs0 : Held N 0 (List.replicate (N - 111) (zeroB 256)) (DS.fresh N (zeroB 256)).now := headQ_zero N (by omega)
  have HO0 : Hid (∀ (w1 : World) (gd : Nat) (O1 : List Nat), DiskAt w1 O1 gd (DS.fresh N (zeroB 256)) → Calls Tryz.prog 31 #[.pointer (some ⟨gd, 0, none⟩)] w1 fun e w' => e = .returned (.tuple #[.pointer none, .int .i64 25]) ∧ Turns O1 gd (DS.fresh N (zeroB 256)) w1 w') := Lib.hid (fun w1 gd O1 hd => kopen_room rfl hs0 (by
    have e : sector1 (List.replicate (N - 111) (zeroB 256)) = zeroB 256 := by
      unfold sector1
      rw [List.getD_eq_getElem?_getD, List.getElem?_replicate, if_pos (by omega)]
      rfl
    rw [e]
    exact room_zero) (open_held hd rfl hs0))
  have HF0 : Hid (∀ (w1 : World) (gd : Nat) (O1 : List Nat), DiskAt w1 O1 gd (DS.fresh N (zeroB 256)) → Calls Tryz.prog 10 #[.pointer (some ⟨gd, 0, none⟩)] w1 fun e w' => ∃ g K, e = .returned (.tuple #[.pointer (some ⟨g, 0, none⟩), .int .i64 0]) ∧ KOpen O1 g gd 1 K w1 w' ∧ ∃ s1 n1 q h, K.S = calm s1 n1 ∧ Held N q h s1 ∧ q ≤ 10 ∧ n1 ≤ 5000) := Lib.hid (fun w1 gd O1 hd => by
    have r := fmt_start (c := 1) hs0 (s0 := List.replicate N (zeroB 256)) (s := List.replicate N (zeroB 256)) (d := []) (n := 0) rfl (DS.Ok.fresh _ _) (by omega) (by omega) (by simp)
    have hp := fmt_pend hs0
    obtain ⟨a1, a2, a3, a4, a5, a6, a7⟩ := r.sync (by omega) (by rw [pendL_length, hp]; decide)
    obtain ⟨s2, n2, e2, hn2⟩ := r.sync_calm (by omega) (by rw [pendL_length, hp]; decide) (by rw [hp]; simp)
    refine (kformat_go hs0 (DS.Ok.fresh _ _) (by show (0 : Nat) ≤ 100; omega) (by show (0 : Nat) < _; omega) (by show (0 : Nat) < _; omega) a1 (kany_ok (open_held hd rfl hs0))).mono ?_
    rintro e w' ⟨g, rfl, ho⟩
    refine ⟨g, _, rfl, ho, s2, n2, _, setI (List.replicate (N - 111) (zeroB 256)) (pendL (fmtK (DS.fresh N (zeroB 256)) 0)), e2, ?_, Int.le_trans a2.seq (by omega), by omega⟩
    have := a2.now.1
    rw [e2] at this
    exact this)
  obtain ⟨X, hX⟩ : ∃ X, X = fillB (⟨#[120]⟩ ++ s) := ⟨_, rfl⟩
  have HXS : Hid (X.size = 256 ∧ X.data.toList.head? = some 120) := Lib.hid (by rw [hX]; exact ⟨fillB_size _, fillX_first s⟩)
  have HFI : Hid (∀ w1, Calls Tryz.prog 13 #[.string (⟨#[120]⟩ ++ s)] w1 fun e w' => e = .returned (.string X) ∧ Below w1.heap.size w1 w') := Lib.hid (fun w1 => by
    rw [hX]
    refine fill_any _ w1 ?_
    have : (⟨#[120]⟩ ++ s : ByteArray).size = 1 + s.size := by rw [ByteArray.size_append]; rfl
    omega)
  clear hX
  have HNN := Lib.hid hN
  have h1 : ¬ (N : Int) < 140 := by omega
  have h2 : ¬ (200 : Int) < (N : Int) := by omega
  have h3 : ¬ (60 : Int) < (s.size : Int) := by omega
  have hcat : (⟨#[120]⟩ : ByteArray).size + s.size ≤ 9223372036854775807 := by show 1 + s.size ≤ _; omega
  clear hs0 hN hs
  go_enter Tryz.func4, Tryz.ntmps4
  go_wp2_with fail
  refine HA.out.mono ?_
  rintro e w1 ⟨rfl, hb1⟩
  have HB1 := Lib.hid hb1
  clear hb1 HA
  go_wp2_with fail
  refine (HDN.out w1).mono ?_
  rintro e w2 ⟨gd, O2, rfl, hd, hO, hb2⟩
  have HO2 : Hid (∀ b ∈ O2, w.heap.size ≤ b) := Lib.hid (fun b hb => Nat.le_trans HB1.out.size (hO b hb))
  have HB2 : Hid (Below w.heap.size w w2) := Lib.hid (HB1.out.trans (hb2.mono HB1.out.size))
  have HO2C := Lib.hid (HO0.out w2 gd O2 hd)
  clear hd hO hb2 HDN HB1 HO0
  go_wp2_with fail
  refine HO2C.out.mono ?_
  rintro e w3 ⟨rfl, O3, d1, d2, d3⟩
  have HO3 : Hid (∀ b ∈ O3, w.heap.size ≤ b) := Lib.hid (fun b hb => by
    rcases d2 b hb with h | h
    · exact HO2.out b h
    · exact Nat.le_trans HB2.out.size h)
  have HB3 : Hid (Below w.heap.size w w3) := Lib.hid (HB2.out.trans (d3.below HO2.out HB2.out.size))
  have HF3 := Lib.hid (HF0.out w3 gd O3 d1)
  clear d1 d2 d3 HO2C HF0 HO2 HB2
  go_wp2_with fail
  refine HF3.out.mono ?_
  rintro e w4 ⟨g4, K4, rfl, ho4, s1, n1, q, h, e4, hh, hq, hn1⟩
  obtain ⟨O4, d1, d2⟩ := (DSt.of_open HO3.out HB3.out ho4).disk
  rw [e4] at d1
  have HD4 := Lib.hid d1
  have HO4 := Lib.hid d2
  have HB4 := Lib.hid (DSt.of_open HO3.out HB3.out ho4).at0
  have key : ∃ wh, Spoil11 N w gd (calm s1 n1) wh X ∧ ((bits .and .i64 a 1 = 1 ∧ wh = 0) ∨ (bits .and .i64 a 1 = 0 ∧ wh = 112)) := by
    cases ho : oddI a with
    | true => exact ⟨0, spoil_head hh hn1 HXS.out.1 HXS.out.2, .inl ⟨odd_and ho, rfl⟩⟩
    | false => exact ⟨112, spoil_room hh hq hn1 HXS.out.1 HXS.out.2, .inr ⟨even_and ho, rfl⟩⟩
  clear d1 d2 ho4 e4 hh hq hn1 HF3 HO3 HB3 HXS
  obtain ⟨wh, hsp, ⟨hbit, hwh⟩ | ⟨hbit, hwh⟩⟩ := key
  all_goals subst hwh
  all_goals have HSP := Lib.hid hsp
  all_goals clear hsp
  all_goals go_wp2_with fail
  all_goals refine (HFI.out w4).mono ?_
  all_goals rintro e w5 ⟨rfl, hb5⟩
  all_goals have HD5 := Lib.hid (HD4.out.below hb5)
  all_goals have HB5 : Hid (Below w.heap.size w w5) := Lib.hid (HB4.out.trans (hb5.mono HB4.out.size))
  all_goals clear hb5 HFI
  · have HW5 : Hid (∀ W, W = w5.alloc (.cells #[.int .i64 0, .string X] 68) → Calls Tryz.prog 35 #[.pointer (some ⟨gd, 0, none⟩), .slice (some ⟨w5.heap.size, 0, none⟩) 1 1] W fun e w' => e = .returned (.int .i64 0) ∧ ∃ O', DiskAt w' O' gd ((calm s1 n1).write [(0, X)]) ∧ (∀ b ∈ O', w.heap.size ≤ b) ∧ Below w.heap.size w w') := Lib.hid (by
      rintro W rfl
      have hbW : Below w5.heap.size w5 (w5.alloc (.cells #[.int .i64 0, .string X] 68)) := (Below.refl _ _).alloc (Nat.le_refl _) _
      have := dwrite_any (some ⟨w5.heap.size, 0, none⟩) 1 1 [(0, X)] (HD5.out.below hbW) HSP.out.ok rfl (wrts_one (Blk.new _ _ _) (fun hm => by have := HD5.out.lt hm; omega)) (by have := HSP.out.left; omega) (by have := HSP.out.few; omega) (by have := HSP.out.few; omega)
      rw [HSP.out.err] at this
      refine this.mono ?_
      rintro e w' ⟨rfl, O', k1, k2, k3⟩
      have hB : Below w.heap.size w (w5.alloc (.cells #[.int .i64 0, .string X] 68)) := HB5.out.trans (hbW.mono HB5.out.size)
      refine ⟨rfl, O', k1, fun b hb => ?_, hB.trans (k3.below HO4.out hB.size)⟩
      rcases k2 b hb with h | h
      · exact HO4.out b h
      · exact Nat.le_trans hB.size h)
    go_wp2_with fail
    refine (HW5.out _ rfl).mono ?_
    rintro e w6 ⟨rfl, O6, k1, k2, k3⟩
    have HD6 := Lib.hid k1
    have HO6 := Lib.hid k2
    have HB6 := Lib.hid k3
    have HOP6 := Lib.hid (HSP.out.opn w6 O6 k1)
    clear k1 k2 k3 HW5 HD5 HB5 HD4 HO4 HB4 hcat
    go_wp2_with fail
    refine HOP6.out.mono ?_
    rintro e w7 ⟨rfl, O7, d1, d2, d3⟩
    have HO7 : Hid (∀ b ∈ O7, w.heap.size ≤ b) := Lib.hid (fun b hb => by
      rcases d2 b hb with h | h
      · exact HO6.out b h
      · exact Nat.le_trans HB6.out.size h)
    have HB7 : Hid (Below w.heap.size w w7) := Lib.hid (HB6.out.trans (d3.below HO6.out HB6.out.size))
    have HFM7 := Lib.hid (HSP.out.fmt w7 O7 d1)
    clear d1 d2 d3 HOP6 HD6 HO6 HB6 HSP
    go_wp2_with fail
    refine HFM7.out.mono ?_
    rintro e w8 ⟨g8, K8, rfl, ho8, hg8⟩
    have HB8 := Lib.hid (DSt.of_open HO7.out HB7.out ho8).at0
    obtain ⟨O8, d1, d2⟩ := (DSt.of_open HO7.out HB7.out ho8).disk
    have HO8 := Lib.hid d2
    have HOP8 := Lib.hid (good_open hg8 d1)
    obtain ⟨h9, r9, hp9⟩ := hg8.run
    have HR9 := Lib.hid r9
    have HP9 := Lib.hid hp9
    clear d1 d2 ho8 hg8 HFM7 HO7 HB7 r9 hp9
    go_wp2_with fail
    refine HOP8.out.mono ?_
    rintro e w9 ⟨g9, rfl, ho9⟩
    have HS9 := Lib.hid (DSt.of_open HO8.out HB8.out ho9)
    obtain ⟨K9, hK9⟩ : ∃ K9, K9 = openK K8.S K8.seq [0, 1] := ⟨_, rfl⟩
    have HH9 : Hid (K9.H = [0, 1]) := Lib.hid (by rw [hK9]; rfl)
    rw [← hK9] at HS9 HR9 HP9
    obtain ⟨gw9, c9, -, -, -⟩ := HS9.out.wal
    have HD9 := Lib.hid (dst_dirty HS9.out HR9.out (by omega))
    rw [HP9.out] at HD9
    clear ho9 hK9 HOP8 HO8 HB8
    go_wp2_with fail
    refine HD9.out.mono ?_
    rintro e w10 ⟨A10, c10, rfl, -, hb10⟩
    have HS10 := Lib.hid (HS9.out.below hb10)
    have HRM := Lib.hid (dst_room HS10.out HR9.out)
    rw [HH9.out] at HRM
    clear hb10 HD9 HS9 c9
    go_wp2_with fail
    refine (kget_nil a w10).mono ?_
    rintro e w11 ⟨rfl, hw11⟩
    have hw11' := hw11.symm
    clear hw11
    subst hw11'
    go_wp2_with fail
    refine (knew_nil s w10).mono ?_
    rintro e w11 ⟨rfl, hw11⟩
    have hw11' := hw11.symm
    clear hw11
    subst hw11'
    go_wp2_with fail
    refine (kopen_nil w10).mono ?_
    rintro e w11 ⟨rfl, rfl⟩
    go_wp2_with fail
    refine HRM.out.mono ?_
    rintro e w11 ⟨rfl, hr11, hb11⟩
    have HB11 : Hid (Below w.heap.size w w11) := Lib.hid (HS10.out.at0.trans (hb11.mono HS10.out.at0.size))
    have HAL := Lib.hid (rall_any hr11)
    clear hr11 hb11 HRM HS10
    go_wp2_with fail
    refine HAL.out.mono ?_
    rintro e w12 ⟨A12, c12, rfl, hrow, hb12⟩
    have HB12 : Hid (Below w.heap.size w w12) := Lib.hid (HB11.out.trans (hb12.mono HB11.out.size))
    have HROW := Lib.hid hrow
    have HSI : Hid (∀ W, W = w12.alloc (.cells #[.int .i64 0, .int .i64 1] 3) → Calls Tryz.prog 39 #[.slice A12 2 c12, .slice (some ⟨w12.heap.size, 0, none⟩) 2 2] W fun e w' => e = .returned (.bool true) ∧ Below w.heap.size w w') := Lib.hid (by
      rintro W rfl
      have hx : Ints (w12.alloc (.cells #[.int .i64 0, .int .i64 1] 3)) (w12.alloc (.cells #[.int .i64 0, .int .i64 1] 3)).heap.size (some ⟨w12.heap.size, 0, none⟩) [0, 1] := fun _ => ⟨w12.heap.size, 0, rfl, by simp, fun j x hx => by
        match j, hx with
        | 0, hx => simp at hx; subst hx; simp
        | 1, hx => simp at hx; subst hx; simp⟩
      have hy : Ints (w12.alloc (.cells #[.int .i64 0, .int .i64 1] 3)) (w12.alloc (.cells #[.int .i64 0, .int .i64 1] 3)).heap.size A12 [0, 1] := row_ints (row_below HROW.out ((Below.refl _ _).alloc (Nat.le_refl _) _))
      refine (ksame_any A12 (some ⟨w12.heap.size, 0, none⟩) 2 c12 2 [0, 1] _ rfl hy hx (by omega)).mono ?_
      rintro e w' ⟨rfl, d, rfl⟩
      have hb := HB12.out.alloc HB12.out.size (.cells #[.int .i64 0, .int .i64 1] 3)
      exact ⟨rfl, ⟨hb.os, hb.tape, hb.output, hb.size, hb.block⟩⟩)
    clear hrow hb12 HAL HB11
    go_wp2_with fail
    refine (HSI.out _ rfl).mono ?_
    rintro e w13 ⟨rfl, hb13⟩
    have HB13 := Lib.hid hb13
    clear hb13 HSI HROW HB12
    go_wp2_with fail
    refine (kset_nil a s w13).mono ?_
    rintro e w14 ⟨rfl, hw14⟩
    have hw14' := hw14.symm
    clear hw14
    subst hw14'
    go_wp2_with fail
    refine (kdrop_nil _ _).mono ?_
    rintro e w14 ⟨rfl, hw14⟩
    have HB14 : Hid (Below w.heap.size w w14) := Lib.hid (by rw [hw14]; exact HB13.out.alloc HB13.out.size _)
    clear hw14
    go_wp2_with fail
    refine (kkeep_nil _ _).mono ?_
    rintro e w15 ⟨rfl, hw15⟩
    have HB15 : Hid (Below w.heap.size w w15) := Lib.hid (by rw [hw15]; exact HB14.out.alloc HB14.out.size _)
    clear hw15
    go_wp2_with fail
    refine (ksync_nil _).mono ?_
    rintro e w16 ⟨rfl, hw16⟩
    have hw16' := hw16.symm
    clear hw16
    subst hw16'
    go_wp2_with fail
    refine (kdirty_nil _).mono ?_
    rintro e w16 ⟨rfl, hw16⟩
    have hw16' := hw16.symm
    clear hw16
    subst hw16'
    go_wp2_with fail
    refine (kroom_nil _).mono ?_
    rintro e w16 ⟨rfl, hw16⟩
    have hw16' := hw16.symm
    clear hw16
    subst hw16'
    go_wp2_with fail
    go_ret
    exact ⟨rfl, HB15.out⟩
  · have HW5 : Hid (∀ W, W = w5.alloc (.cells #[.int .i64 112, .string X] 68) → Calls Tryz.prog 35 #[.pointer (some ⟨gd, 0, none⟩), .slice (some ⟨w5.heap.size, 0, none⟩) 1 1] W fun e w' => e = .returned (.int .i64 0) ∧ ∃ O', DiskAt w' O' gd ((calm s1 n1).write [(112, X)]) ∧ (∀ b ∈ O', w.heap.size ≤ b) ∧ Below w.heap.size w w') := Lib.hid (by
      rintro W rfl
      have hbW : Below w5.heap.size w5 (w5.alloc (.cells #[.int .i64 112, .string X] 68)) := (Below.refl _ _).alloc (Nat.le_refl _) _
      have := dwrite_any (some ⟨w5.heap.size, 0, none⟩) 1 1 [(112, X)] (HD5.out.below hbW) HSP.out.ok rfl (wrts_one (Blk.new _ _ _) (fun hm => by have := HD5.out.lt hm; omega)) (by have := HSP.out.left; omega) (by have := HSP.out.few; omega) (by have := HSP.out.few; omega)
      rw [HSP.out.err] at this
      refine this.mono ?_
      rintro e w' ⟨rfl, O', k1, k2, k3⟩
      have hB : Below w.heap.size w (w5.alloc (.cells #[.int .i64 112, .string X] 68)) := HB5.out.trans (hbW.mono HB5.out.size)
      refine ⟨rfl, O', k1, fun b hb => ?_, hB.trans (k3.below HO4.out hB.size)⟩
      rcases k2 b hb with h | h
      · exact HO4.out b h
      · exact Nat.le_trans hB.size h)
    go_wp2_with fail
    refine (HW5.out _ rfl).mono ?_
    rintro e w6 ⟨rfl, O6, k1, k2, k3⟩
    have HD6 := Lib.hid k1
    have HO6 := Lib.hid k2
    have HB6 := Lib.hid k3
    have HOP6 := Lib.hid (HSP.out.opn w6 O6 k1)
    clear k1 k2 k3 HW5 HD5 HB5 HD4 HO4 HB4 hcat
    go_wp2_with fail
    refine HOP6.out.mono ?_
    rintro e w7 ⟨rfl, O7, d1, d2, d3⟩
    have HO7 : Hid (∀ b ∈ O7, w.heap.size ≤ b) := Lib.hid (fun b hb => by
      rcases d2 b hb with h | h
      · exact HO6.out b h
      · exact Nat.le_trans HB6.out.size h)
    have HB7 : Hid (Below w.heap.size w w7) := Lib.hid (HB6.out.trans (d3.below HO6.out HB6.out.size))
    have HFM7 := Lib.hid (HSP.out.fmt w7 O7 d1)
    clear d1 d2 d3 HOP6 HD6 HO6 HB6 HSP
    go_wp2_with fail
    refine HFM7.out.mono ?_
    rintro e w8 ⟨g8, K8, rfl, ho8, hg8⟩
    have HB8 := Lib.hid (DSt.of_open HO7.out HB7.out ho8).at0
    obtain ⟨O8, d1, d2⟩ := (DSt.of_open HO7.out HB7.out ho8).disk
    have HO8 := Lib.hid d2
    have HOP8 := Lib.hid (good_open hg8 d1)
    obtain ⟨h9, r9, hp9⟩ := hg8.run
    have HR9 := Lib.hid r9
    have HP9 := Lib.hid hp9
    clear d1 d2 ho8 hg8 HFM7 HO7 HB7 r9 hp9
    go_wp2_with fail
    refine HOP8.out.mono ?_
    rintro e w9 ⟨g9, rfl, ho9⟩
    have HS9 := Lib.hid (DSt.of_open HO8.out HB8.out ho9)
    obtain ⟨K9, hK9⟩ : ∃ K9, K9 = openK K8.S K8.seq [0, 1] := ⟨_, rfl⟩
    have HH9 : Hid (K9.H = [0, 1]) := Lib.hid (by rw [hK9]; rfl)
    rw [← hK9] at HS9 HR9 HP9
    obtain ⟨gw9, c9, -, -, -⟩ := HS9.out.wal
    have HD9 := Lib.hid (dst_dirty HS9.out HR9.out (by omega))
    rw [HP9.out] at HD9
    clear ho9 hK9 HOP8 HO8 HB8
    go_wp2_with fail
    refine HD9.out.mono ?_
    rintro e w10 ⟨A10, c10, rfl, -, hb10⟩
    have HS10 := Lib.hid (HS9.out.below hb10)
    have HRM := Lib.hid (dst_room HS10.out HR9.out)
    rw [HH9.out] at HRM
    clear hb10 HD9 HS9 c9
    go_wp2_with fail
    refine (kget_nil a w10).mono ?_
    rintro e w11 ⟨rfl, hw11⟩
    have hw11' := hw11.symm
    clear hw11
    subst hw11'
    go_wp2_with fail
    refine (knew_nil s w10).mono ?_
    rintro e w11 ⟨rfl, hw11⟩
    have hw11' := hw11.symm
    clear hw11
    subst hw11'
    go_wp2_with fail
    refine (kopen_nil w10).mono ?_
    rintro e w11 ⟨rfl, rfl⟩
    go_wp2_with fail
    refine HRM.out.mono ?_
    rintro e w11 ⟨rfl, hr11, hb11⟩
    have HB11 : Hid (Below w.heap.size w w11) := Lib.hid (HS10.out.at0.trans (hb11.mono HS10.out.at0.size))
    have HAL := Lib.hid (rall_any hr11)
    clear hr11 hb11 HRM HS10
    go_wp2_with fail
    refine HAL.out.mono ?_
    rintro e w12 ⟨A12, c12, rfl, hrow, hb12⟩
    have HB12 : Hid (Below w.heap.size w w12) := Lib.hid (HB11.out.trans (hb12.mono HB11.out.size))
    have HROW := Lib.hid hrow
    have HSI : Hid (∀ W, W = w12.alloc (.cells #[.int .i64 0, .int .i64 1] 3) → Calls Tryz.prog 39 #[.slice A12 2 c12, .slice (some ⟨w12.heap.size, 0, none⟩) 2 2] W fun e w' => e = .returned (.bool true) ∧ Below w.heap.size w w') := Lib.hid (by
      rintro W rfl
      have hx : Ints (w12.alloc (.cells #[.int .i64 0, .int .i64 1] 3)) (w12.alloc (.cells #[.int .i64 0, .int .i64 1] 3)).heap.size (some ⟨w12.heap.size, 0, none⟩) [0, 1] := fun _ => ⟨w12.heap.size, 0, rfl, by simp, fun j x hx => by
        match j, hx with
        | 0, hx => simp at hx; subst hx; simp
        | 1, hx => simp at hx; subst hx; simp⟩
      have hy : Ints (w12.alloc (.cells #[.int .i64 0, .int .i64 1] 3)) (w12.alloc (.cells #[.int .i64 0, .int .i64 1] 3)).heap.size A12 [0, 1] := row_ints (row_below HROW.out ((Below.refl _ _).alloc (Nat.le_refl _) _))
      refine (ksame_any A12 (some ⟨w12.heap.size, 0, none⟩) 2 c12 2 [0, 1] _ rfl hy hx (by omega)).mono ?_
      rintro e w' ⟨rfl, d, rfl⟩
      have hb := HB12.out.alloc HB12.out.size (.cells #[.int .i64 0, .int .i64 1] 3)
      exact ⟨rfl, ⟨hb.os, hb.tape, hb.output, hb.size, hb.block⟩⟩)
    clear hrow hb12 HAL HB11
    go_wp2_with fail
    refine (HSI.out _ rfl).mono ?_
    rintro e w13 ⟨rfl, hb13⟩
    have HB13 := Lib.hid hb13
    clear hb13 HSI HROW HB12
    go_wp2_with fail
    refine (kset_nil a s w13).mono ?_
    rintro e w14 ⟨rfl, hw14⟩
    have hw14' := hw14.symm
    clear hw14
    subst hw14'
    go_wp2_with fail
    refine (kdrop_nil _ _).mono ?_
    rintro e w14 ⟨rfl, hw14⟩
    have HB14 : Hid (Below w.heap.size w w14) := Lib.hid (by rw [hw14]; exact HB13.out.alloc HB13.out.size _)
    clear hw14
    go_wp2_with fail
    refine (kkeep_nil _ _).mono ?_
    rintro e w15 ⟨rfl, hw15⟩
    have HB15 : Hid (Below w.heap.size w w15) := Lib.hid (by rw [hw15]; exact HB14.out.alloc HB14.out.size _)
    clear hw15
    go_wp2_with fail
    refine (ksync_nil _).mono ?_
    rintro e w16 ⟨rfl, hw16⟩
    have hw16' := hw16.symm
    clear hw16
    subst hw16'
    go_wp2_with fail
    refine (kdirty_nil _).mono ?_
    rintro e w16 ⟨rfl, hw16⟩
    have hw16' := hw16.symm
    clear hw16
    subst hw16'
    go_wp2_with fail
    refine (kroom_nil _).mono ?_
    rintro e w16 ⟨rfl, hw16⟩
    have hw16' := hw16.symm
    clear hw16
    subst hw16'
    go_wp2_with fail
    go_ret
    exact ⟨rfl, HB15.out⟩
set_option maxRecDepth 100000 in
theorem dspoilt_any (n a : Int) (s : ByteArray) (w : World) (hs : s.size ≤ 140737488355328) : Calls Tryz.prog 4 #[.int .i64 n, .int .i64 a, .string s] w fun e w' => e = .returned (.bool true) ∧ Below w.heap.size w w' := by
  by_cases h : n < 140 ∨ 200 < n ∨ 60 < s.size
  · exact dspoilt_out_any n a s w hs h
  · obtain ⟨m, rfl⟩ : ∃ m : Nat, n = (m : Int) := ⟨n.toNat, by omega⟩
    exact dspoilt_in m a s w (by omega) (by omega)
theorem dspoilt_card (n a : Int) (s : ByteArray) (w : World) (_ : -9223372036854775808 ≤ n ∧ n ≤ 9223372036854775807) (_ : -9223372036854775808 ≤ a ∧ a ≤ 9223372036854775807) (hs : s.size ≤ 140737488351232) : Calls Tryz.prog 4 #[.int .i64 n, .int .i64 a, .string s] w fun e w' => e = .returned (.bool true) ∧ Below w.heap.size w w' := dspoilt_any n a s w (by omega)
end Go.Proofs.YtdibeieiogagoaaGreatDoor
