/-
  Package room: made, copied, given back. No statement is proved here.
-/
import Derived.Test.YtbaanoomilohhaaGreatRoomMore
namespace Go.Proofs.YtbaanoomilohhaaGreat
open Go.RowKit

set_option maxRecDepth 100000 in
set_option maxHeartbeats 4000000 in
theorem rgive_any (A : Option Addr) (m c : Nat) (l : List Int) {w : World} {g n : Nat} {H : List Int} (h : RoomAt w g n H) (hm : l.length = m) (hx : Ints w w.heap.size A l) (hne : ∀ a, A = some a → a.block ≠ g) (hl : m ≤ 1000000) :
    Calls Tryz.prog 12 #[.pointer (some ⟨g, 0, none⟩), .slice A m c] w fun e w' => e = .returned (.int .i64 ((giveL H l).2 : Int)) ∧ RoomTurns w w' g n (giveL H l).1 := by
  have hs := h.size
  have HR := Lib.hid h
  have HX := Lib.hid hx
  have HM := Lib.hid hm
  have HNE := Lib.hid hne
  clear h hx hm hne
  go_enter Tryz.func12, Tryz.ntmps12
  go_wp2_with fail
  go_loopw [5, 10] (fun v i wr => ∃ (j k : Nat), j ≤ m ∧ k ≤ j ∧ i = .int .i64 j ∧ v = .int .i64 k ∧ (giveL H (l.take j)).2 = k ∧ RoomTurns w wr g n (giveL H (l.take j)).1) (fun _ i _ => m - (intOf i).toNat)
  case atStart => exact ⟨0, 0, Nat.zero_le _, Nat.le_refl _, rfl, rfl, rfl, RoomTurns.refl HR.out⟩
  case round =>
    obtain ⟨j, k, hj, hk, rfl, rfl, hgk, hT⟩ := hrel
    have HT := Lib.hid hT
    have HK := Lib.hid hgk
    clear hT hgk
    by_cases hlt : j < m
    · have hjl : j < l.length := by rw [HM.out]; exact hlt
      obtain ⟨b, off, hA, hbB, hc⟩ := HX.out (by omega)
      obtain ⟨x, hx⟩ : ∃ x, x = l[j] := ⟨_, rfl⟩
      have hxj : l[j]? = some x := by rw [hx]; exact List.getElem?_eq_getElem hjl
      have E1 := Lib.hid (giveL_snoc H hxj)
      have hbg : b ≠ g := by have := HNE.out _ hA; exact this
      have d0 : wr.cell? ⟨b, off + j, none⟩ = some (.int .i64 x) := (HT.out.cell (p := ⟨b, off + j, none⟩) hbB hbg).trans (hc j x hxj)
      obtain ⟨H1, hH1⟩ : ∃ H1, H1 = (giveL H (l.take j)).1 := ⟨_, rfl⟩
      rw [← hH1] at HT
      have hs1 : giveL H (l.take j) = (H1, k) := by rw [hH1, ← HK.out]
      rw [hs1] at E1
      have HU := Lib.hid (rused_any x HT.out.room)
      subst hA
      have hjI : (j : Int) < (m : Int) := by omega
      obtain ⟨r, hr⟩ : ∃ r, r = decide (x ∈ H1) := ⟨_, rfl⟩
      rw [← hr] at HU
      have HRR := Lib.hid hr
      clear hx hxj hc hbg hH1 hs1 hjl hr
      cases r with
      | false =>
        have hno : x ∉ H1 := of_decide_eq_false HRR.out.symm
        have hgs : giveL H (l.take (j + 1)) = (H1, k) := by rw [E1.out]; unfold giveS; rw [if_neg hno]
        have HGS := Lib.hid hgs
        clear hno hgs
        go_wp2_with fail
        refine HU.out.mono ?_
        rintro e w2 ⟨rfl, d, rfl⟩
        go_wp2_with fail
        go_roundw
        case rel => exact ⟨j + 1, k, by omega, by omega, by go_num, rfl, by rw [HGS.out], by rw [HGS.out]; exact HT.out.drewN d⟩
        case measure => simp [intOf]; omega
      | true =>
        have hyes : x ∈ H1 := of_decide_eq_true HRR.out.symm
        have hgs : giveL H (l.take (j + 1)) = (dropL x H1, k + 1) := by rw [E1.out]; unfold giveS; rw [if_pos hyes]
        have HGS := Lib.hid hgs
        obtain ⟨x0, x1⟩ := HT.out.room.ok.range x hyes
        obtain ⟨i, rfl⟩ := Int.eq_ofNat_of_zero_le x0
        have hin : i < n := by omega
        clear hyes hgs x0 x1
        go_wp2_with fail
        refine HU.out.mono ?_
        rintro e w2 ⟨rfl, d, rfl⟩
        obtain ⟨w2, hw2⟩ : ∃ w2, w2 = wr.drewN d := ⟨_, rfl⟩
        have HT2 : Hid (RoomTurns w w2 g n H1) := Lib.hid (by rw [hw2]; exact HT.out.drewN d)
        rw [← hw2]
        clear hw2 d0 HU
        have HB := Lib.hid (bit_any i (by omega))
        obtain ⟨q, hq⟩ : ∃ q, q = i / 8 := ⟨_, rfl⟩
        obtain ⟨y, hy⟩ : ∃ y, y = byteP (inP H1) (i / 8) := ⟨_, rfl⟩
        obtain ⟨z, hz⟩ : ∃ z, z = 2 ^ (i % 8) := ⟨_, rfl⟩
        obtain ⟨u, hu⟩ : ∃ u, u = y &&& (255 - z) := ⟨_, rfl⟩
        have hq8 : q < 238 := by omega
        have hq1 : (i : Int) / 8 = (q : Int) := by omega
        have hq2 : (i : Int).tdiv 8 = (q : Int) := by rw [Int.tdiv_eq_ediv_of_nonneg (by omega)]; exact hq1
        have hqI : (q : Int) < 238 := by omega
        have hqw : IntKind.i64.wrap (q : Int) = (q : Int) := by rw [IntKind.wrap_i64]; omega
        have han : bits .andNot .u8 (y : Int) (z : Int) = (u : Int) := by
          rw [hu]
          exact u8_andNot_nat y z (by rw [hy]; exact byteP_lt _ _) (by rw [hz]; exact bit_lt _ (by omega))
        have c1 : w2.cell? ⟨g, 1 + q, none⟩ = some (.int .u8 (y : Int)) := by rw [hy, ← hq]; exact HT2.out.room.byte hq8
        have f1 : w2.frozen? ⟨g, 1 + q, none⟩ = false := HT2.out.room.blk.frozen _
        have hgl := HT2.out.room.lt
        rw [← hz] at HB
        have HTC := Lib.hid (HT2.out.room.clear (i := i) (b := u) (by rw [hu, hy, hz]))
        rw [← hq] at HTC
        have HW : Hid (∀ W, Calls Tryz.prog 30 #[.int .i64 (i : Int)] W fun e w' => e = .returned (.int .u8 (z : Int)) ∧ w' = W) := HB
        clear hu hz hy hq
        go_upto_region 6 with fail
        go_still_tail 13, (by kernel_rfl)
        still_call (HW.out _)
        repeat still_step
        refine wpStill_nil ?_
        change wpList _ _ _ _ _ w2.drew
        go_wp2_with fail
        go_roundw
        case rel =>
          refine ⟨j + 1, k + 1, by omega, by omega, by go_num, by go_num, by rw [HGS.out], ?_⟩
          rw [HGS.out]
          have := HT2.out.trans HTC.out
          exact ⟨this.room.drewN 1, ⟨this.by_.os, this.by_.tape, this.by_.output, this.by_.size, this.by_.block⟩⟩
        case measure => simp [intOf]; omega
    · obtain rfl : j = m := by omega
      have htk : l.take j = l := List.take_of_length_le (by rw [HM.out]; exact Nat.le_refl _)
      rw [htk] at HT HK
      clear htk
      go_wp2_with fail
      go_ret
      exact ⟨by rw [HK.out]; rfl, HT.out⟩
theorem rgive_none (A : Option Addr) (m c : Nat) (l : List Int) (w : World) (hm : l.length = m) (hx : Ints w w.heap.size A l) (hl : m ≤ 1000000) :
    Calls Tryz.prog 12 #[.pointer none, .slice A m c] w fun e w' => e = .returned (.int .i64 0) ∧ ∃ d, w' = w.drewN d := by
  have HX := Lib.hid hx
  have HM := Lib.hid hm
  clear hx hm
  go_enter Tryz.func12, Tryz.ntmps12
  go_wp2_with fail
  go_loopw [5, 10] (fun v i wr => ∃ (j d : Nat), j ≤ m ∧ i = .int .i64 j ∧ v = .int .i64 0 ∧ wr = w.drewN d) (fun _ i _ => m - (intOf i).toNat)
  case atStart => exact ⟨0, 0, Nat.zero_le _, rfl, rfl, rfl⟩
  case round =>
    obtain ⟨j, d, hj, rfl, rfl, hw⟩ := hrel
    have HWR := Lib.hid hw
    clear hw
    by_cases hlt : j < m
    · have hjl : j < l.length := by rw [HM.out]; exact hlt
      obtain ⟨b, off, hA, hbB, hc⟩ := HX.out (by omega)
      obtain ⟨x, hx⟩ : ∃ x, x = l[j] := ⟨_, rfl⟩
      have hxj : l[j]? = some x := by rw [hx]; exact List.getElem?_eq_getElem hjl
      have d0 : wr.cell? ⟨b, off + j, none⟩ = some (.int .i64 x) := by rw [HWR.out]; exact hc j x hxj
      have HU := Lib.hid (rused_none x wr)
      subst hA
      have hjI : (j : Int) < (m : Int) := by omega
      clear hx hxj hc hjl
      go_wp2_with fail
      refine HU.out.mono ?_
      rintro e w2 ⟨rfl, d2, rfl⟩
      go_wp2_with fail
      go_roundw
      case rel => exact ⟨j + 1, d + d2, by omega, by go_num, rfl, by rw [HWR.out, World.drewN_drewN]⟩
      case measure => simp [intOf]; omega
    · obtain rfl : j = m := by omega
      go_wp2_with fail
      go_ret
      exact ⟨rfl, _, HWR.out⟩

theorem room_agg (w : World) : (isAgg 64).run Tryz.prog w = .ok true w := by kernel_rfl
theorem room_size (w : World) : (sizeOf 64).run Tryz.prog w = .ok 239 w := by kernel_rfl
theorem roomC_one (n : Nat) (P : Nat → Bool) : (roomC n P).all (·.oneCell') = true := by
  rw [Array.all_eq_true_iff_forall_mem]
  intro v hv
  unfold roomC roomL at hv
  rw [List.mem_toArray] at hv
  rcases List.mem_cons.1 hv with rfl | hv
  · rfl
  · obtain ⟨k, _, rfl⟩ := List.mem_map.1 hv
    rfl
set_option maxRecDepth 100000 in
set_option maxHeartbeats 4000000 in
theorem rcopy_any {w : World} {g n : Nat} {H : List Int} (h : RoomAt w g n H) : Calls Tryz.prog 13 #[.pointer (some ⟨g, 0, none⟩)] w fun e w' => e = .returned (.pointer (some ⟨w.heap.size, 0, none⟩)) ∧ RoomAt w' w.heap.size n H ∧ Below w.heap.size w w' := by
  have HR := Lib.hid h
  obtain ⟨C, hC⟩ : ∃ C, C = roomC n (inP H) := ⟨_, rfl⟩
  obtain ⟨Z, hZ⟩ : ∃ Z, Z = roomC 0 (fun _ => false) := ⟨_, rfl⟩
  have hz : ∀ w, (zeroValue 64).run Tryz.prog w = .ok (.agg Z) w := fun w => by rw [hZ]; kernel_rfl
  have hCZ : C.size = Z.size := by rw [hC, hZ, roomC_size, roomC_size]
  have h1 : C.all (·.oneCell') = true := by rw [hC]; exact roomC_one _ _
  have hsz : ∀ w, (sizeOf 64).run Tryz.prog w = .ok C.size w := fun w => by rw [hC, roomC_size]; exact room_size w
  have hb : Blk w g 64 C := by rw [hC]; exact h.blk
  have hgl := h.lt
  clear h
  go_enter Tryz.func13, Tryz.ntmps13
  go_upto_region 3 with fail
  refine wp_region_lit ?_
  refine wpList_value (v := .pointer (some ⟨g, 0, none⟩)) rfl rfl ?_
  refine wpList_value (v := .pointer (some ⟨g, 0, none⟩)) rfl rfl ?_
  refine wpList_load rfl rfl rfl (load_whole hb room_agg hsz) ?_
  refine wpList_value (v := .pointer (some ⟨w.heap.size, 0, none⟩)) (w' := w.alloc (.cells Z 64)) rfl (by go_simp) ?_
  refine wpList_store rfl rfl rfl rfl (store_whole (Blk.new w _ Z) hCZ h1 hsz) ?_
  have hb1 : Below w.heap.size w ((w.alloc (.cells Z 64)).setRow w.heap.size C) := below_setRow ((Below.refl _ _).alloc (Nat.le_refl _) _) (Nat.le_refl _) _
  have hB : Blk ((w.alloc (.cells Z 64)).setRow w.heap.size C) w.heap.size 64 C := blk_setRow (Blk.new w _ Z) C
  obtain ⟨W1, hW1⟩ : ∃ W1, W1 = (w.alloc (.cells Z 64)).setRow w.heap.size C := ⟨_, rfl⟩
  rw [← hW1] at hb1 hB
  rw [← hW1]
  have HD : Hid (RoomAt W1 w.heap.size n H) := Lib.hid ⟨by rw [hC] at hB; exact hB, HR.out.ok, HR.out.size⟩
  have HB := Lib.hid hb1
  clear hW1 hb1 hB hC hZ hCZ h1 hsz hz hb
  go_wp2_with fail
  go_ret
  exact ⟨rfl, HD.out, HB.out⟩
theorem rcopy_none (w : World) : Calls Tryz.prog 13 #[.pointer none] w fun e w' => e = .returned (.pointer none) ∧ w' = w := by
  go_enter Tryz.func13, Tryz.ntmps13
  go_wp2_with fail
  go_ret
  exact ⟨rfl, rfl⟩

/-- Sectors put one by one. -/
def putEach (l : List Int) : List Int := l.foldl (fun a x => putL x a) []
theorem putEach_snoc {l : List Int} {j : Nat} {x : Int} (h : l[j]? = some x) : putEach (l.take (j + 1)) = putL x (putEach (l.take j)) := by
  unfold putEach
  rw [List.take_add_one, h, List.foldl_append]
  rfl
set_option maxRecDepth 100000 in
set_option maxHeartbeats 4000000 in
theorem rnew_any (n : Nat) (A : Option Addr) (m c : Nat) (l : List Int) (w : World) (hn0 : 1 ≤ n) (hn : n ≤ 1900) (hm : l.length = m) (hx : Ints w w.heap.size A l) (hl : m ≤ 1000000) :
    Calls Tryz.prog 6 #[.int .i64 (n : Int), .slice A m c] w fun e w' => Below w.heap.size w w' ∧
      (((∀ x ∈ l, 0 ≤ x ∧ x < (n : Int)) ∧ e = .returned (.tuple #[.pointer (some ⟨w.heap.size, 0, none⟩), .int .i64 0]) ∧ RoomAt w' w.heap.size n (putEach l)) ∨
       (¬ (∀ x ∈ l, 0 ≤ x ∧ x < (n : Int)) ∧ e = .returned (.tuple #[.pointer none, .int .i64 1]))) := by
  have HX := Lib.hid hx
  have HM := Lib.hid hm
  obtain ⟨Z, hZ⟩ : ∃ Z, Z = roomC n (inP []) := ⟨_, rfl⟩
  have hn0I : 1 ≤ (n : Int) := by omega
  have hnI : (n : Int) ≤ 1900 := by omega
  clear hx hm
  go_enter Tryz.func6, Tryz.ntmps6
  go_upto_region 3 with fail
  refine wp_region_lit ?_
  refine wpList_value (v := .int .i64 (n : Int)) rfl rfl ?_
  refine wpList_value (v := .agg Z) (w' := w) rfl (by rw [hZ]; kernel_rfl) ?_
  refine wpList_value (v := .pointer (some ⟨w.heap.size, 0, none⟩)) (w' := w.alloc (.cells Z 64)) rfl (by go_simp) ?_
  have hb1 : Below w.heap.size w (w.alloc (.cells Z 64)) := (Below.refl _ _).alloc (Nat.le_refl _) _
  have hB := Blk.new w 64 Z
  obtain ⟨W1, hW1⟩ : ∃ W1, W1 = w.alloc (.cells Z 64) := ⟨_, rfl⟩
  rw [← hW1] at hb1 hB
  rw [← hW1]
  obtain ⟨g, hg⟩ : ∃ g, g = w.heap.size := ⟨_, rfl⟩
  rw [← hg] at hB ⊢
  have HD : Hid (RoomTurns W1 W1 g n []) := Lib.hid (RoomTurns.refl ⟨by rw [hZ] at hB; exact hB, HOk.nil n, hn⟩)
  have HB := Lib.hid hb1
  have HG := Lib.hid hg
  clear hW1 hb1 hB hZ hg
  go_wp2_with fail
  go_loopw [20] (fun i wr => ∃ (j : Nat), j ≤ m ∧ i = .int .i64 j ∧ (∀ x ∈ l.take j, 0 ≤ x ∧ x < (n : Int)) ∧ RoomTurns W1 wr g n (putEach (l.take j))) (fun i _ => m - (intOf i).toNat)
  case atStart => exact ⟨0, Nat.zero_le _, rfl, (fun x hx => by cases hx), HD.out⟩
  case round =>
    obtain ⟨j, hj, rfl, hok, hT⟩ := hrel
    have HT := Lib.hid hT
    have HOK := Lib.hid hok
    have HBR : Hid (Below w.heap.size w wr) := Lib.hid (hT.under HB.out (by rw [HG.out]; exact Nat.le_refl _) HB.out.size)
    clear hT hok
    by_cases hlt : j < m
    · have hjl : j < l.length := by rw [HM.out]; exact hlt
      obtain ⟨b, off, hA, hbB, hc⟩ := HX.out (by omega)
      obtain ⟨x, hx⟩ : ∃ x, x = l[j] := ⟨_, rfl⟩
      have hxj : l[j]? = some x := by rw [hx]; exact List.getElem?_eq_getElem hjl
      have HXM := Lib.hid (List.mem_of_getElem? hxj)
      have E1 := Lib.hid (putEach_snoc hxj)
      have E2 : Hid (l.take (j + 1) = l.take j ++ [x]) := Lib.hid (by rw [List.take_add_one, hxj]; rfl)
      have d0 : wr.cell? ⟨b, off + j, none⟩ = some (.int .i64 x) := (HBR.out.cell (p := ⟨b, off + j, none⟩) hbB).trans (hc j x hxj)
      have HH := Lib.hid (rhas_any x HT.out.room)
      subst hA
      have hjI : (j : Int) < (m : Int) := by omega
      clear hx hxj hc hjl
      by_cases hin : 0 ≤ x ∧ x < (n : Int)
      · rw [decide_eq_true hin] at HH
        obtain ⟨x0, x1⟩ := hin
        obtain ⟨i, rfl⟩ := Int.eq_ofNat_of_zero_le x0
        have HS := Lib.hid (rset_any i HT.out.room (by omega))
        have HX1 := Lib.hid x1
        clear x0 x1
        go_wp2_with fail
        refine HH.out.mono ?_
        rintro e w2 ⟨rfl, rfl⟩
        go_wp2_with fail
        refine HS.out.mono ?_
        rintro e w3 ⟨rfl, hT3⟩
        have HT3 := Lib.hid (HT.out.trans hT3)
        clear hT3
        go_wp2_with fail
        go_roundw
        case rel =>
          refine ⟨j + 1, by omega, by go_num, fun y hy => ?_, by rw [E1.out]; exact HT3.out⟩
          rw [E2.out] at hy
          rcases List.mem_append.1 hy with hy | hy
          · exact HOK.out y hy
          · rw [List.mem_singleton.1 hy]
            exact ⟨by omega, HX1.out⟩
        case measure => simp [intOf]; omega
      · have HIN := Lib.hid hin
        rw [decide_eq_false hin] at HH
        clear hin
        go_wp2_with fail
        refine HH.out.mono ?_
        rintro e w2 ⟨rfl, rfl⟩
        go_wp2_with fail
        go_ret2
        exact ⟨HBR.out, .inr ⟨fun h => HIN.out (h _ HXM.out), rfl⟩⟩
    · obtain rfl : j = m := by omega
      have htk : l.take j = l := List.take_of_length_le (by rw [HM.out]; exact Nat.le_refl _)
      rw [htk] at HT HOK
      clear htk
      go_wp2_with fail
      go_ret2
      refine ⟨HBR.out, .inl ⟨HOK.out, ?_, ?_⟩⟩
      · rw [← HG.out]; rfl
      · rw [← HG.out]; exact HT.out.room
theorem rnew_none (n : Int) (v : Value) (w : World) (hn : ¬ (1 ≤ n ∧ n ≤ 1900)) :
    Calls Tryz.prog 6 #[.int .i64 n, v] w fun e w' => e = .returned (.tuple #[.pointer none, .int .i64 1]) ∧ w' = w := by
  by_cases h1 : 1 ≤ n
  · have h2 : ¬ n < 1 := by omega
    have h3 : 1900 < n := by omega
    go_enter Tryz.func6, Tryz.ntmps6
    go_wp2_with fail
    go_ret2
    exact ⟨rfl, rfl⟩
  · have h2 : n < 1 := by omega
    go_enter Tryz.func6, Tryz.ntmps6
    go_wp2_with fail
    go_ret2
    exact ⟨rfl, rfl⟩
end Go.Proofs.YtbaanoomilohhaaGreat
