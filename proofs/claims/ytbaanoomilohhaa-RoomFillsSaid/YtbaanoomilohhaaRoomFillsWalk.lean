/-
  RoomFills: the law's walk. No statement is proved here.
-/
import Derived.Test.YtbaanoomilohhaaRoomFillsPure
import Derived.Test.YtbaanoomilohhaaIntsView
namespace Go.Proofs.Ytbaanoomilohhaa
open Go.RowKit

set_option maxRecDepth 100000 in
theorem roomfills_out (n : Int) (A1 : Option Addr) (m1 c1 : Nat) (A2 : Option Addr) (m2 c2 : Nat) (w : World) (h : n < 1 ∨ 300 < n ∨ 100 < m1 ∨ 100 < m2) :
    Calls Try.prog 3 #[.int .i64 n, .slice A1 m1 c1, .slice A2 m2 c2] w fun e w' => e = .returned (.bool true) ∧ Below w.heap.size w w' := by
  have HAL := Lib.hid (alive10_any w)
  go_enter Try.func3, Try.ntmps3
  by_cases a1 : n < 1
  · go_wp2_with fail
    refine HAL.out.mono ?_
    rintro e w1 ⟨rfl, hb⟩
    have HB := Lib.hid hb
    clear hb
    go_wp2_with fail
    go_ret
    exact ⟨rfl, HB.out⟩
  by_cases a2 : 300 < n
  · have a1' : ¬ n < 1 := a1
    go_wp2_with fail
    refine HAL.out.mono ?_
    rintro e w1 ⟨rfl, hb⟩
    have HB := Lib.hid hb
    clear hb
    go_wp2_with fail
    go_ret
    exact ⟨rfl, HB.out⟩
  by_cases a3 : 100 < m1
  · have a3' : (100 : Int) < (m1 : Int) := by omega
    go_wp2_with fail
    refine HAL.out.mono ?_
    rintro e w1 ⟨rfl, hb⟩
    have HB := Lib.hid hb
    clear hb
    go_wp2_with fail
    go_ret
    exact ⟨rfl, HB.out⟩
  · have a4 : (100 : Int) < (m2 : Int) := by omega
    have a3' : ¬ (100 : Int) < (m1 : Int) := by omega
    go_wp2_with fail
    refine HAL.out.mono ?_
    rintro e w1 ⟨rfl, hb⟩
    have HB := Lib.hid hb
    clear hb
    go_wp2_with fail
    go_ret
    exact ⟨rfl, HB.out⟩

set_option maxRecDepth 100000 in
set_option maxHeartbeats 8000000 in
theorem roomfills_in (n : Nat) (A1 : Option Addr) (m1 c1 : Nat) (l1 : List Int) (A2 : Option Addr) (m2 c2 : Nat) (l2 : List Int) (w : World) (hn1 : 1 ≤ n) (hn2 : n ≤ 300) (hm1 : m1 ≤ 100) (hm2 : m2 ≤ 100) (i1 : IntsV w A1 m1 c1 l1) (i2 : IntsV w A2 m2 c2 l2) :
    Calls Try.prog 3 #[.int .i64 (n : Int), .slice A1 m1 c1, .slice A2 m2 c2] w fun e w' => e = .returned (.bool true) ∧ Below w.heap.size w w' := by
  have HAL := Lib.hid (alive10_any w)
  have HI1 := Lib.hid i1
  have HI2 := Lib.hid i2
  have hn1I : 1 ≤ (n : Int) := by omega
  have hn2I : (n : Int) ≤ 300 := by omega
  have hm1I : (m1 : Int) ≤ 100 := by omega
  have hm2I : (m2 : Int) ≤ 100 := by omega
  have hnz : ¬ n = 0 := by omega
  have HM1 := Lib.hid i1.len
  have HM2 := Lib.hid i2.len
  clear i1 i2
  go_enter Try.func3, Try.ntmps3
  go_wp2_with fail
  refine HAL.out.mono ?_
  rintro e w1 ⟨rfl, hb1⟩
  have HB1 := Lib.hid hb1
  have HX1 : Hid (∀ W, Below w1.heap.size w1 W → Ints W w.heap.size A1 l1) := Lib.hid (fun W hW => HI1.out.lie.below (hb1.trans (hW.mono hb1.size)))
  clear hb1 HAL
  go_wp2_with fail
  go_loopw [7, 8] (fun v i wr => ∃ (j : Nat) (xs : List Int) (A : Option Addr) (c : Nat), j ≤ m1 ∧ i = .int .i64 j ∧ xs = modAll (n : Int) (l1.take j) ∧ xs.length ≤ j ∧ v = .slice A xs.length c ∧ wr.ownsRow w1.heap.size 3 1 (.slice A xs.length c) xs.length (xs.map (Value.int .i64)) ∧ Below w1.heap.size w1 wr) (fun _ i _ => m1 - (intOf i).toNat)
  case atStart => exact ⟨0, [], none, 0, Nat.zero_le _, rfl, rfl, Nat.le_refl _, rfl, World.ownsRow_nil _ _ _ _, Below.refl _ _⟩
  case round =>
    obtain ⟨j, xs, A, c, hj, rfl, hxs, hxl, rfl, hrow, hbr⟩ := hrel
    have HXS := Lib.hid hxs
    have HRW := Lib.hid hrow
    have HBR := Lib.hid hbr
    clear hxs hrow hbr
    by_cases hlt : j < m1
    · have hjl : j < l1.length := by rw [HM1.out]; exact hlt
      obtain ⟨b, off, hA, hbB, hc⟩ := HX1.out _ HBR.out (by omega)
      obtain ⟨x, hx⟩ : ∃ x, x = l1[j] := ⟨_, rfl⟩
      have hxj : l1[j]? = some x := by rw [hx]; exact List.getElem?_eq_getElem hjl
      have E1 := Lib.hid (modAll_snoc (n : Int) hxj)
      have d0 := hc j x hxj
      obtain ⟨y, hy⟩ : ∃ y, y = x.tmod (n : Int) := ⟨_, rfl⟩
      obtain ⟨z, hz⟩ : ∃ z, z = y + (n : Int) := ⟨_, rfl⟩
      obtain ⟨u, hu⟩ : ∃ u, u = z.tmod (n : Int) := ⟨_, rfl⟩
      have hy1 : -(n : Int) < y := by
        rw [hy]
        have := Int.lt_tmod_of_pos x (show (0 : Int) < (n : Int) by omega)
        omega
      have hy2 : y < (n : Int) := by rw [hy]; exact Int.tmod_lt_of_pos _ (by omega)
      have e1 : IntKind.i64.wrap y = y := IntWalk.i64_in _ (by omega)
      have e2 : IntKind.i64.wrap (y + (n : Int)) = z := by rw [IntWalk.i64_in _ (by omega), hz]
      have hz0 : 0 ≤ z := by omega
      have hu1 : 0 ≤ u := by rw [hu]; exact Int.tmod_nonneg _ hz0
      have hu2 : u < (n : Int) := by rw [hu]; exact Int.tmod_lt_of_pos _ (by omega)
      have e3 : IntKind.i64.wrap u = u := IntWalk.i64_in _ (by omega)
      have hmod : modN (n : Int) x = u := by unfold modN; rw [← hy, ← hz, ← hu]
      have hz9 : z % (n : Int) = u := by rw [← Int.tmod_eq_emod_of_nonneg hz0]; exact hu.symm
      have HPT : Hid (Calls Try.prog 5 #[.slice A xs.length c, .int .i64 u] wr fun e w' => ∃ A' c', e = .returned (.slice A' (putL u xs).length c') ∧ w'.ownsRow w1.heap.size 3 1 (.slice A' (putL u xs).length c') (putL u xs).length ((putL u xs).map (Value.int .i64)) ∧ Below wr.heap.size wr w') := Lib.hid (rput_any u A c xs.length xs w1.heap.size wr rfl HRW.out (by omega) HBR.out.size)
      have E2 : Hid (modAll (n : Int) (l1.take (j + 1)) = putL u xs) := Lib.hid (by rw [E1.out, hmod, HXS.out])
      have HLE := Lib.hid (putL_le u xs)
      subst hA
      have hjI : (j : Int) < (m1 : Int) := by omega
      have hy' : x.tmod (n : Int) = y := hy.symm
      have hu' : z.tmod (n : Int) = u := hu.symm
      clear hx hxj hc hjl hy hz hu hmod E1
      go_wp2_with fail
      refine HPT.out.mono ?_
      rintro e w2 ⟨A', c', rfl, hrow, hb⟩
      have HR2 := Lib.hid hrow
      have HB2 := Lib.hid (HBR.out.trans (hb.mono HBR.out.size))
      clear hrow hb
      go_wp2_with fail
      go_roundw
      case rel => exact ⟨j + 1, putL u xs, A', c', by omega, by go_num, E2.out.symm, by have := HLE.out; omega, rfl, HR2.out, HB2.out⟩
      case measure => simp [intOf]; omega
    · obtain rfl : j = m1 := by omega
      obtain ⟨w0, hw0⟩ : ∃ w0, w0 = wr := ⟨_, rfl⟩
      subst hw0
      have htk : l1.take j = l1 := List.take_of_length_le (by rw [HM1.out]; exact Nat.le_refl _)
      rw [htk] at HXS
      have HOK : Hid (HOk n xs) := Lib.hid (by rw [HXS.out]; exact modAll_ok hn1 l1)
      have HRI : Hid (putEach xs = xs) := Lib.hid (putEach_rise HOK.out.rise)
      have HIN : Hid (∀ W, Below w0.heap.size w0 W → Ints W W.heap.size A xs) := Lib.hid (fun W hW => row_ints (row_below HRW.out hW))
      have HOLD : Hid (∀ a, A = some a → a.block < w0.heap.size) := Lib.hid (fun a ha => (HRW.out.lt a.block (by rw [ha]; rfl)).2)
      have HNEW : Hid (Calls Try.prog 6 #[.int .i64 (n : Int), .slice A xs.length c] w0 fun e w' => ∃ g, e = .returned (.tuple #[.pointer (some ⟨g, 0, none⟩), .int .i64 0]) ∧ g = w0.heap.size ∧ RoomAt w' g n xs ∧ Below w0.heap.size w0 w') := Lib.hid (by
        refine (rnew_any n A xs.length c xs w0 hn1 (by omega) rfl (HIN.out _ (Below.refl _ _)) (by omega)).mono ?_
        rintro e w' ⟨hb, h | h⟩
        · obtain ⟨_, rfl, hr⟩ := h
          rw [HRI.out] at hr
          exact ⟨_, rfl, rfl, hr, hb⟩
        · exact absurd HOK.out.range h.1)
      have HXL : Hid (xs.length ≤ n) := Lib.hid HOK.out.few
      have hxn : xs.length ≤ n := HXL.out
      clear htk HXS hlt
      go_wp2_with fail
      refine HNEW.out.mono ?_
      rintro e w2 ⟨g, rfl, hg, hr, hb2⟩
      have HG := Lib.hid hg
      have HT0 : Hid (RoomTurns w2 w2 g n xs) := Lib.hid (RoomTurns.refl hr)
      have HB2 := Lib.hid hb2
      clear hg hr hb2 HNEW
      go_wp2_with fail
      go_loopw [11, 12] (fun la i wx => ∃ (t : Nat) (last : Int) (H : List Int), t ≤ n - xs.length ∧ i = .int .i64 t ∧ la = .int .i64 last ∧ Taking n xs t last H ∧ last < (n : Int) ∧ RoomTurns w2 wx g n H) (fun _ i _ => n - (intOf i).toNat)
      case atStart => exact ⟨0, -1, xs, by omega, rfl, rfl, Taking.start HOK.out, by omega, HT0.out⟩
      case round =>
        obtain ⟨t, last, H, ht, rfl, rfl, htk, hla, hT⟩ := hrel
        have HTK := Lib.hid htk
        have HT := Lib.hid hT
        have HBX : Hid (Below w0.heap.size w0 wr) := Lib.hid (hT.under HB2.out (by rw [HG.out]; exact Nat.le_refl _) HB2.out.size)
        clear htk hT
        have e1 : IntKind.i64.wrap ((n : Int) - (xs.length : Int)) = (n : Int) - (xs.length : Int) := IntWalk.i64_in _ (by omega)
        by_cases hlt2 : t < n - xs.length
        · obtain ⟨k, hk⟩ := least_ex HTK.out.ok
          obtain ⟨hkn, hlk, hno, hnx⟩ := HTK.out.next hk (by omega)
          have HNX := Lib.hid hnx
          have HTA : Hid (Calls Try.prog 7 #[.pointer (some ⟨g, 0, none⟩)] wr fun e w' => e = .returned (.tuple #[.int .i64 (k : Int), .int .i64 0]) ∧ RoomTurns w2 w' g n (putL (k : Int) H)) := Lib.hid (by
            refine (rtake_any HT.out.room hk).mono ?_
            rintro e w' (⟨_, rfl, k9⟩ | ⟨h, _⟩)
            · exact ⟨rfl, HT.out.trans k9⟩
            · omega)
          have HAM : Hid (∀ W, Below w0.heap.size w0 W → Calls Try.prog 8 #[.slice A xs.length c, .int .i64 (k : Int)] W fun e w' => e = .returned (.bool false) ∧ w' = W) := Lib.hid (fun W hW => by
            have := ramong_any (k : Int) A c xs.length xs W rfl (HIN.out W hW) (by omega)
            rwa [decide_eq_false hno] at this)
          have htI : (t : Int) < (n : Int) - (xs.length : Int) := by omega
          have hkI : ¬ (k : Int) ≤ last := by omega
          have HKN := Lib.hid hkn
          clear hk hno hnx hkn
          go_wp2_with fail
          refine HTA.out.mono ?_
          rintro e w3 ⟨rfl, hT3⟩
          have HT3 := Lib.hid hT3
          have HB3 : Hid (Below w0.heap.size w0 w3) := Lib.hid (hT3.under HB2.out (by rw [HG.out]; exact Nat.le_refl _) HB2.out.size)
          clear hT3
          go_wp2_with fail
          refine (HAM.out _ HB3.out).mono ?_
          rintro e w4 ⟨rfl, rfl⟩
          go_wp2_with fail
          go_roundw
          case rel => exact ⟨t + 1, (k : Int), putL (k : Int) H, by omega, by go_num, rfl, HNX.out, by have := HKN.out; omega, HT3.out⟩
          case measure => simp [intOf]; omega
        · obtain rfl : t = n - xs.length := by omega
          have hfl : H.length = n := by rw [HTK.out.len]; omega
          have HLF := Lib.hid (least_full HTK.out.ok hfl)
          have hex : (n : Int) - (xs.length : Int) ≤ ((n - xs.length : Nat) : Int) := by omega
          have hexn : ¬ ((n - xs.length : Nat) : Int) < (n : Int) - (xs.length : Int) := by omega
          obtain ⟨w3, hw3⟩ : ∃ w3, w3 = wr := ⟨_, rfl⟩
          subst hw3
          have HTA : Hid (Calls Try.prog 7 #[.pointer (some ⟨g, 0, none⟩)] w3 fun e w' => e = .returned (.tuple #[.int .i64 0, .int .i64 20]) ∧ w' = w3) := Lib.hid (by
            refine (rtake_any HT.out.room HLF.out).mono ?_
            rintro e w' (⟨h, _⟩ | ⟨_, rfl, h⟩)
            · omega
            · exact ⟨rfl, h⟩)
          have HFR : Hid (Calls Try.prog 9 #[.pointer (some ⟨g, 0, none⟩)] w3 fun e w' => e = .returned (.int .i64 0) ∧ w' = w3) := Lib.hid (by
            have := rfree_any HT.out.room
            rwa [hfl, Int.sub_self] at this)
          have HROOM := Lib.hid HT.out.room
          have HALL : Hid (∀ x : Int, 0 ≤ x → x < (n : Int) → x ∈ H) := Lib.hid (fun x h0 h1 => by
            obtain ⟨i, rfl⟩ := Int.eq_ofNat_of_zero_le h0
            exact all_used HTK.out.ok hfl i (by omega))
          have HFL := Lib.hid hfl
          have HGW : Hid (w.heap.size ≤ g) := Lib.hid (by rw [HG.out]; exact Nat.le_trans HB1.out.size HBR.out.size)
          have HB3 : Hid (Below w.heap.size w w3) := Lib.hid (((HB1.out.trans (HBR.out.mono HB1.out.size)).trans (HBX.out.mono (Nat.le_trans HB1.out.size HBR.out.size))))
          have HX2 : Hid (∀ W, Below w3.heap.size w3 W → Ints W w.heap.size A2 l2) := Lib.hid (fun W hW => HI2.out.lie.below (HB3.out.trans (hW.mono HB3.out.size)))
          clear hfl HLF HTK HT HIN HOLD HOK HRI HRW HX1 HBR HBX HB2 HT0 HB1
          go_wp2_with fail
          refine HTA.out.mono ?_
          rintro e w4 ⟨rfl, rfl⟩
          go_wp2_with fail
          refine HFR.out.mono ?_
          rintro e w5 ⟨rfl, rfl⟩
          go_wp2_with fail
          go_loopw [17, 18] (fun v i wr => ∃ (j : Nat) (ys : List Int) (B : Option Addr) (d : Nat), j ≤ m2 ∧ i = .int .i64 j ∧ ys = modAll (n : Int) (l2.take j) ∧ ys.length ≤ j ∧ v = .slice B ys.length d ∧ wr.ownsRow w5.heap.size 3 1 (.slice B ys.length d) ys.length (ys.map (Value.int .i64)) ∧ Below w5.heap.size w5 wr) (fun _ i _ => m2 - (intOf i).toNat)
          case atStart => exact ⟨0, [], none, 0, Nat.zero_le _, rfl, rfl, Nat.le_refl _, rfl, World.ownsRow_nil _ _ _ _, Below.refl _ _⟩
          case round =>
            obtain ⟨j2, ys, B, d, hj2, rfl, hys, hyl, rfl, hrow2, hbr2⟩ := hrel
            have HYS := Lib.hid hys
            have HRW := Lib.hid hrow2
            have HBR := Lib.hid hbr2
            clear hys hrow2 hbr2
            by_cases hlt3 : j2 < m2
            · have hjl : j2 < l2.length := by rw [HM2.out]; exact hlt3
              obtain ⟨b, off, hA, hbB, hc⟩ := HX2.out _ HBR.out (by omega)
              obtain ⟨x, hx⟩ : ∃ x, x = l2[j2] := ⟨_, rfl⟩
              have hxj : l2[j2]? = some x := by rw [hx]; exact List.getElem?_eq_getElem hjl
              have E1 := Lib.hid (modAll_snoc (n : Int) hxj)
              have d0 := hc j2 x hxj
              obtain ⟨y, hy⟩ : ∃ y, y = x.tmod (n : Int) := ⟨_, rfl⟩
              obtain ⟨z, hz⟩ : ∃ z, z = y + (n : Int) := ⟨_, rfl⟩
              obtain ⟨u, hu⟩ : ∃ u, u = z.tmod (n : Int) := ⟨_, rfl⟩
              have hy1 : -(n : Int) < y := by
                rw [hy]
                have := Int.lt_tmod_of_pos x (show (0 : Int) < (n : Int) by omega)
                omega
              have hy2 : y < (n : Int) := by rw [hy]; exact Int.tmod_lt_of_pos _ (by omega)
              have e1 : IntKind.i64.wrap y = y := IntWalk.i64_in _ (by omega)
              have e2 : IntKind.i64.wrap (y + (n : Int)) = z := by rw [IntWalk.i64_in _ (by omega), hz]
              have hz0 : 0 ≤ z := by omega
              have hu1 : 0 ≤ u := by rw [hu]; exact Int.tmod_nonneg _ hz0
              have hu2 : u < (n : Int) := by rw [hu]; exact Int.tmod_lt_of_pos _ (by omega)
              have e3 : IntKind.i64.wrap u = u := IntWalk.i64_in _ (by omega)
              have hmod : modN (n : Int) x = u := by unfold modN; rw [← hy, ← hz, ← hu]
              have hz9 : z % (n : Int) = u := by rw [← Int.tmod_eq_emod_of_nonneg hz0]; exact hu.symm
              have HPT : Hid (Calls Try.prog 5 #[.slice B ys.length d, .int .i64 u] wr fun e w' => ∃ A' c', e = .returned (.slice A' (putL u ys).length c') ∧ w'.ownsRow w5.heap.size 3 1 (.slice A' (putL u ys).length c') (putL u ys).length ((putL u ys).map (Value.int .i64)) ∧ Below wr.heap.size wr w') := Lib.hid (rput_any u B d ys.length ys w5.heap.size wr rfl HRW.out (by omega) HBR.out.size)
              have E2 : Hid (modAll (n : Int) (l2.take (j2 + 1)) = putL u ys) := Lib.hid (by rw [E1.out, hmod, HYS.out])
              have HLE := Lib.hid (putL_le u ys)
              subst hA
              have hjI : (j2 : Int) < (m2 : Int) := by omega
              have hy' : x.tmod (n : Int) = y := hy.symm
              have hu' : z.tmod (n : Int) = u := hu.symm
              clear hx hxj hc hjl hy hz hu hmod E1
              go_wp2_with fail
              refine HPT.out.mono ?_
              rintro e w6 ⟨A', c', rfl, hrow, hb⟩
              have HR2 := Lib.hid hrow
              have HB2 := Lib.hid (HBR.out.trans (hb.mono HBR.out.size))
              clear hrow hb
              go_wp2_with fail
              go_roundw
              case rel => exact ⟨j2 + 1, putL u ys, A', c', by omega, by go_num, E2.out.symm, by have := HLE.out; omega, rfl, HR2.out, HB2.out⟩
              case measure => simp [intOf]; omega
            · obtain rfl : j2 = m2 := by omega
              have htk2 : l2.take j2 = l2 := List.take_of_length_le (by rw [HM2.out]; exact Nat.le_refl _)
              rw [htk2] at HYS
              obtain ⟨w6, hw6⟩ : ∃ w6, w6 = wr := ⟨_, rfl⟩
              subst hw6
              have HYR : Hid (ys.Pairwise (· < ·)) := Lib.hid (by rw [HYS.out]; exact modAll_rise _ _)
              have HYG : Hid (∀ x ∈ ys, 0 ≤ x ∧ x < (n : Int)) := Lib.hid (by rw [HYS.out]; exact modAll_range (by omega) _)
              have HR6 := Lib.hid (HROOM.out.below HBR.out)
              have HYI : Hid (Ints w6 w6.heap.size B ys) := Lib.hid (row_ints HRW.out)
              have HNE : Hid (∀ a, B = some a → a.block ≠ g) := Lib.hid (fun a ha => by
                have h1 := (HRW.out.lt a.block (by rw [ha]; rfl)).1
                have h2 := HROOM.out.lt
                omega)
              obtain ⟨q1, q2, q3⟩ := giveL_all ys H 0 HROOM.out.ok HYR.out (fun x hx => HALL.out x (HYG.out x hx).1 (HYG.out x hx).2)
              obtain ⟨G, hG⟩ : ∃ G, G = (giveL H ys).1 := ⟨_, rfl⟩
              have HGV : Hid (Calls Try.prog 10 #[.pointer (some ⟨g, 0, none⟩), .slice B ys.length d] w6 fun e w' => e = .returned (.int .i64 (ys.length : Int)) ∧ RoomTurns w6 w' g n G) := Lib.hid (by
                have h := rgive_any B ys.length d ys HR6.out rfl HYI.out HNE.out (by omega)
                have e : (giveL H ys).2 = ys.length := by unfold giveL; rw [q1, Nat.zero_add]
                rwa [e, ← hG] at h)
              have HGL : Hid ((n : Int) - (G.length : Int) = (ys.length : Int)) := Lib.hid (by
                have := q2
                rw [show (List.foldl giveS (H, 0) ys).1 = G from hG.symm, HFL.out] at this
                omega)
              have HBK : Hid (Back n ys 0 G) := Lib.hid ⟨by rw [hG]; exact giveL_ok HROOM.out.ok ys, fun x => by
                have := q3 x
                rw [show (List.foldl giveS (H, 0) ys).1 = G from hG.symm] at this
                rw [this, List.drop_zero]
                exact ⟨fun h => ⟨HROOM.out.ok.range x h.1, h.2⟩, fun h => ⟨HALL.out x h.1.1 h.1.2, h.2⟩⟩⟩
              have HB6 : Hid (Below w.heap.size w w6) := Lib.hid (HB3.out.trans (HBR.out.mono HB3.out.size))
              clear htk2 HYS q1 q2 q3 hG HROOM HALL HFL HRW HBR HX2 HB3
              go_wp2_with fail
              refine HGV.out.mono ?_
              rintro e w7 ⟨rfl, hT7⟩
              have HT7 := Lib.hid hT7
              have HFR2 : Hid (Calls Try.prog 9 #[.pointer (some ⟨g, 0, none⟩)] w7 fun e w' => e = .returned (.int .i64 (ys.length : Int)) ∧ w' = w7) := Lib.hid (by
                have := rfree_any hT7.room
                rwa [HGL.out] at this)
              clear hT7
              go_wp2_with fail
              refine HFR2.out.mono ?_
              rintro e w8 ⟨rfl, rfl⟩
              go_wp2_with fail
              go_loopw [19] (fun i wr => ∃ (t : Nat) (K : List Int), t ≤ ys.length ∧ i = .int .i64 t ∧ Back n ys t K ∧ RoomTurns w6 wr g n K) (fun i _ => ys.length - (intOf i).toNat)
              case atStart => exact ⟨0, G, Nat.zero_le _, rfl, HBK.out, HT7.out⟩
              case round =>
                obtain ⟨t, K, ht, rfl, hbk, hT⟩ := hrel
                have HBK := Lib.hid hbk
                have HT := Lib.hid hT
                clear hbk hT
                by_cases hlt4 : t < ys.length
                · obtain ⟨b, off, hB, hbB, hc⟩ := HT.out.ints HYI.out HNE.out (by omega)
                  obtain ⟨y, hy⟩ : ∃ y, y = ys[t] := ⟨_, rfl⟩
                  have hyj : ys[t]? = some y := by rw [hy]; exact List.getElem?_eq_getElem hlt4
                  obtain ⟨k, rfl, hkn, hkl, hbn⟩ := HBK.out.next HYR.out HYG.out hyj
                  have HBN := Lib.hid hbn
                  have HNE' := Lib.hid (HNE.out _ hB)
                  have HDC : Hid (∀ W, RoomTurns wr W g n (putL (k : Int) K) → W.cell? ⟨b, off + t, none⟩ = some (.int .i64 (k : Int))) := Lib.hid (fun W hW => (hW.cell (p := ⟨b, off + t, none⟩) hbB HNE'.out).trans (hc t _ hyj))
                  have HTA : Hid (Calls Try.prog 7 #[.pointer (some ⟨g, 0, none⟩)] wr fun e w' => e = .returned (.tuple #[.int .i64 (k : Int), .int .i64 0]) ∧ RoomTurns wr w' g n (putL (k : Int) K)) := Lib.hid (by
                    refine (rtake_any HT.out.room hkl).mono ?_
                    rintro e w' (⟨_, rfl, k9⟩ | ⟨h, _⟩)
                    · exact ⟨rfl, k9⟩
                    · omega)
                  have htI : (t : Int) < (ys.length : Int) := by omega
                  subst hB
                  clear hbB hc hy hyj hkl hbn
                  go_wp2_with fail
                  refine HTA.out.mono ?_
                  rintro e w9 ⟨rfl, hT9⟩
                  have d0 := HDC.out _ hT9
                  have HT9 := Lib.hid (HT.out.trans hT9)
                  clear hT9
                  go_wp2_with fail
                  go_roundw
                  case rel => exact ⟨t + 1, putL (k : Int) K, by omega, by go_num, HBN.out, HT9.out⟩
                  case measure => simp [intOf]; omega
                · obtain rfl : t = ys.length := by omega
                  obtain ⟨w9, hw9⟩ : ∃ w9, w9 = wr := ⟨_, rfl⟩
                  subst hw9
                  have HB9 : Hid (Below w.heap.size w w9) := Lib.hid (HT.out.under HB6.out HGW.out HB6.out.size)
                  have HR9 := Lib.hid HT.out.room
                  have hgo : giveL K [-1, (n : Int)] = (K, 0) := give_out HR9.out.ok
                  have HLAST : Hid (∀ (W : World), Below w9.heap.size w9 W → Blk W w9.heap.size 3 #[.int .i64 (-1), .int .i64 (n : Int)] → Calls Try.prog 10 #[.pointer (some ⟨g, 0, none⟩), .slice (some ⟨w9.heap.size, 0, none⟩) 2 2] W fun e w' => e = .returned (.int .i64 0) ∧ Below w.heap.size w w') := Lib.hid (fun W hW hb => by
                    have h := rgive_any (some ⟨w9.heap.size, 0, none⟩) 2 2 [-1, (n : Int)] (HR9.out.below hW) rfl (ints_blk2 hb) (fun a ha => by cases ha; have := HR9.out.lt; show w9.heap.size ≠ g; omega) (by omega)
                    rw [hgo] at h
                    refine h.mono ?_
                    rintro e w' ⟨rfl, hT⟩
                    exact ⟨rfl, hT.under (HB9.out.trans (hW.mono HB9.out.size)) HGW.out (Nat.le_trans HB9.out.size hW.size)⟩)
                  clear hgo
                  go_wp2_with fail
                  refine (HLAST.out _ ((Below.refl _ _).alloc (Nat.le_refl _) _) (Blk.new _ _ _)).mono ?_
                  rintro e wz ⟨rfl, hbz⟩
                  have HBZ := Lib.hid hbz
                  clear hbz
                  go_wp2_with fail
                  go_ret
                  exact ⟨rfl, HBZ.out⟩

theorem roomfills_any (n : Int) (A1 : Option Addr) (m1 c1 : Nat) (l1 : List Int) (A2 : Option Addr) (m2 c2 : Nat) (l2 : List Int) (w : World) (_ : -9223372036854775808 ≤ n ∧ n ≤ 9223372036854775807) (i1 : IntsV w A1 m1 c1 l1) (i2 : IntsV w A2 m2 c2 l2) :
    Calls Try.prog 3 #[.int .i64 n, .slice A1 m1 c1, .slice A2 m2 c2] w fun e w' => e = .returned (.bool true) ∧ Below w.heap.size w w' := by
  by_cases h : n < 1 ∨ 300 < n ∨ 100 < m1 ∨ 100 < m2
  · exact roomfills_out n A1 m1 c1 A2 m2 c2 w h
  · obtain ⟨k, rfl⟩ := Int.eq_ofNat_of_zero_le (show 0 ≤ n by omega)
    exact roomfills_in k A1 m1 c1 l1 A2 m2 c2 l2 w (by omega) (by omega) (by omega) (by omega) i1 i2
end Go.Proofs.Ytbaanoomilohhaa
