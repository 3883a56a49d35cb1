/-
  Package room's Read, of any bytes. No statement is proved here.
-/
import Derived.Test.YtbaanoomilohhaaGreatRoomLay
import Derived.Test.YtbaanoomilohhaaGreatCrcOpen
namespace Go.Proofs.YtbaanoomilohhaaGreat
open Go.RowKit

theorem num_first {l : List UInt8} {k : Nat} (h : k ≤ l.length) (hk : k ≤ 7) : (Rd.mk (bs l) 0).num k = ((low (l.take k) : Int), (⟨bs (l.drop k), 0⟩ : Rd)) := by
  have e : l = lowBytes k (low (l.take k)) ++ l.drop k := by
    have h1 := lowBytes_low (l.take k)
    rw [List.length_take, Nat.min_eq_left h] at h1
    rw [h1, List.take_append_drop]
  have hlt : low (l.take k) < 256 ^ k := by
    have := low_lt (l.take k)
    rwa [List.length_take, Nat.min_eq_left h] at this
  have h7 : 256 ^ k ≤ 256 ^ 7 := Nat.pow_le_pow_right (by omega) hk
  have := num_bs k (low (l.take k)) (l.drop k) hlt (by omega)
  rwa [← e] at this
theorem index_str (w : World) (s : ByteArray) (j : Nat) (x : UInt8) (h : s[j]? = some x) : (Instr.index 9 (.string s) (.int .i64 (j : Int))).run Tryz.prog w = .ok (.int .u8 (x.toNat : Int)) w := by
  simp [Instr.index, asIntOf, Sem.run_bind, run_underlying Tryz.underlying9, Result.andThen, h]
theorem openB_ok {l : List UInt8} (h : (openB l).2 = 0) : (openB l).1 = l.take (l.length - 4) := by
  unfold openB at h ⊢
  split
  · rename_i h'; rw [if_pos h'] at h; exact absurd h (by decide)
  · rename_i h'
    rw [if_neg h'] at h
    split
    · rfl
    · rename_i h2; rw [if_neg h2] at h; exact absurd h (by decide)

set_option maxRecDepth 100000 in
set_option maxHeartbeats 4000000 in
theorem rparse_any (l : List UInt8) (w : World) (hl : l.length = 252) :
    Calls Tryz.prog 38 #[.string (bs l)] w fun e w' => Below w.heap.size w w' ∧
      ((1 ≤ sizeN l ∧ sizeN l ≤ 1900 ∧ ∃ g, e = .returned (.pointer (some ⟨g, 0, none⟩)) ∧ RoomAt w' g (sizeN l) (bitsH l (sizeN l)) ∧ w.heap.size ≤ g) ∨
       (¬ (1 ≤ sizeN l ∧ sizeN l ≤ 1900) ∧ e = .returned (.pointer none))) := by
  have N1 := num_first (l := l) (k := 1) (by omega) (by omega)
  have N2 := num_first (l := l.drop 1) (k := 2) (by rw [List.length_drop]; omega) (by omega)
  obtain ⟨Y, hY⟩ : ∃ Y, Y = bs l := ⟨_, rfl⟩
  have HON : Hid (∀ W, Calls Tryz.prog 84 #[.string Y] W fun e w' => ∃ g, e = .returned (.pointer (some ⟨g, 0, none⟩)) ∧ W.heap.size ≤ g ∧ InAt w' g ⟨Y, 0⟩ ∧ Below W.heap.size W w') := Lib.hid (fun W => on_any Y W (by rw [hY, bs_size]; omega))
  have HBY : Hid (∀ (W : World) (g : Nat), InAt W g ⟨Y, 0⟩ → Calls Tryz.prog 87 #[.pointer (some ⟨g, 0, none⟩)] W fun e w' => e = .returned (.int .i64 (low (l.take 1) : Int)) ∧ InAt w' g ⟨bs (l.drop 1), 0⟩ ∧ W.grownBy w' (some g)) := Lib.hid (fun W g hi => by
    have := in_byte g _ W hi (by show Y.size ≤ _; rw [hY, bs_size]; omega)
    rw [hY, N1] at this
    exact this)
  obtain ⟨n, hn⟩ : ∃ n, n = sizeN l := ⟨_, rfl⟩
  have HHF : Hid (∀ (W : World) (g : Nat), InAt W g ⟨bs (l.drop 1), 0⟩ → Calls Tryz.prog 88 #[.pointer (some ⟨g, 0, none⟩)] W fun e w' => e = .returned (.int .i64 (n : Int)) ∧ W.grownBy w' (some g)) := Lib.hid (fun W g hi => by
    have := in_half g _ W hi (by show (bs (l.drop 1)).size ≤ _; rw [bs_size, List.length_drop]; omega)
    rw [N2] at this
    refine this.mono ?_
    rintro e w' ⟨rfl, _, hg⟩
    exact ⟨by rw [hn]; rfl, hg⟩)
  obtain ⟨k1, hk1⟩ : ∃ k1 : Int, k1 = (low (l.take 1) : Int) := ⟨_, rfl⟩
  obtain ⟨Y1, hY1⟩ : ∃ Y1, Y1 = bs (l.drop 1) := ⟨_, rfl⟩
  rw [← hk1, ← hY1] at HBY
  rw [← hY1] at HHF
  have HYL : Hid (∀ i, i < 252 → Y[i]? = some (l.getD i 0)) := Lib.hid (fun i hi => by
    rw [hY]
    show (bs l)[i]? = _
    rw [getElem?_pos (bs l) i (by rw [bs_size]; omega)]
    rw [List.getD_eq_getElem?_getD, List.getElem?_eq_getElem (by omega)]
    rfl)
  have hn64 : n < 65536 := by rw [hn]; exact sizeN_lt l
  rw [← hY, ← hn]
  clear N1 N2 hY hn hk1 hY1 hl
  go_enter Tryz.func38, Tryz.ntmps38
  go_wp2_with fail
  refine (HON.out _).mono ?_
  rintro e w1 ⟨gi, rfl, hgi, hi1, hb1⟩
  have HI1 := Lib.hid hi1
  have HB1 := Lib.hid hb1
  have HGI := Lib.hid hgi
  clear hgi hi1 hb1
  go_wp2_with fail
  refine (HBY.out _ _ HI1.out).mono ?_
  rintro e w2 ⟨rfl, hi2, hg2⟩
  have HI2 := Lib.hid hi2
  have HB2 := Lib.hid (below_by_new HB1.out hg2 HGI.out)
  clear hi2 hg2
  go_wp2_with fail
  refine (HHF.out _ _ HI2.out).mono ?_
  rintro e w3 ⟨rfl, hg3⟩
  have HB3 := Lib.hid (below_by_new HB2.out hg3 HGI.out)
  clear hg3 HI1 HB1 HI2 HB2
  by_cases hin : 1 ≤ n ∧ n ≤ 1900
  · obtain ⟨n1, n2⟩ := hin
    have HNW : Hid (Calls Tryz.prog 6 #[.int .i64 (n : Int), .slice none 0 0] w3 fun e w' => ∃ g, e = .returned (.tuple #[.pointer (some ⟨g, 0, none⟩), .int .i64 0]) ∧ RoomAt w' g n [] ∧ w3.heap.size ≤ g ∧ Below w3.heap.size w3 w') := Lib.hid (by
      refine (rnew_any n none 0 0 [] w3 n1 n2 rfl (Ints.nil _ _ _) (by omega)).mono ?_
      rintro e w' ⟨hb, h | h⟩
      · obtain ⟨_, rfl, hr⟩ := h
        exact ⟨_, rfl, hr, Nat.le_refl _, hb⟩
      · exact absurd (fun x hx => by cases hx) h.1)
    go_wp2_with fail
    refine HNW.out.mono ?_
    rintro e w4 ⟨g, rfl, hr, hg, hb⟩
    have HT0 := Lib.hid (RoomTurns.refl hr)
    have HG := Lib.hid (Nat.le_trans HB3.out.size hg)
    have HB4 := Lib.hid (HB3.out.trans (hb.mono HB3.out.size))
    have HSZ := Lib.hid (size_any hr)
    clear hr hg hb HNW
    go_wp2_with fail
    refine HSZ.out.mono ?_
    rintro e w5 ⟨rfl, rfl⟩
    go_wp2_with fail
    go_loopw [19] (fun i wr => ∃ (j : Nat), j ≤ n ∧ i = .int .i64 j ∧ RoomTurns w5 wr g n (bitsH l j)) (fun i _ => n - (intOf i).toNat)
    case atStart => exact ⟨0, Nat.zero_le _, rfl, HT0.out⟩
    case round =>
      obtain ⟨j, hj, rfl, hT⟩ := hrel
      have HT := Lib.hid hT
      clear hT
      by_cases hlt : j < n
      · have hjI : (j : Int) < (n : Int) := by omega
        obtain ⟨k, hk⟩ : ∃ k, k = j / 8 := ⟨_, rfl⟩
        obtain ⟨t, ht⟩ : ∃ t, t = 3 + k := ⟨_, rfl⟩
        obtain ⟨x, hx⟩ : ∃ x, x = l.getD t 0 := ⟨_, rfl⟩
        obtain ⟨y, hy⟩ : ∃ y, y = 2 ^ (j % 8) := ⟨_, rfl⟩
        obtain ⟨z, hz⟩ : ∃ z, z = x.toNat &&& y := ⟨_, rfl⟩
        obtain ⟨r, hr⟩ : ∃ r, r = bitAt l j := ⟨_, rfl⟩
        have hq' : (j : Int) / 8 = (k : Int) := by omega
        have hq : (j : Int).tdiv 8 = (k : Int) := by rw [Int.tdiv_eq_ediv_of_nonneg (by omega)]; exact hq'
        have hkw : IntKind.i64.wrap (k : Int) = (k : Int) := by rw [IntKind.wrap_i64]; omega
        have e1 : IntKind.i64.wrap (3 + (k : Int)) = (t : Int) := by rw [IntKind.wrap_i64]; omega
        have hix : ∀ W, (Instr.index 9 (.string Y) (.int .i64 (t : Int))).run Tryz.prog W = .ok (.int .u8 (x.toNat : Int)) W := fun W => index_str W Y t x (by rw [hx]; exact HYL.out t (by omega))
        have hand : bits .and .u8 (x.toNat : Int) (y : Int) = (z : Int) := by
          rw [hz]
          exact u8_and_nat x.toNat y x.toNat_lt (by rw [hy]; exact bit_lt _ (by omega))
        have hzr : ((z : Int) != 0) = r := by
          have hp : 0 < 2 ^ (j % 8) := Nat.two_pow_pos _
          rw [hz, hy, nat_bit, hr]
          unfold bitAt
          rw [← hk, ← ht, ← hx]
          have h2 : x.toNat / 2 ^ (j % 8) % 2 < 2 := Nat.mod_lt _ (by omega)
          obtain ⟨q, hq9⟩ : ∃ q, q = x.toNat / 2 ^ (j % 8) % 2 := ⟨_, rfl⟩
          rw [← hq9] at h2 ⊢
          rcases (show q = 0 ∨ q = 1 by omega) with rfl | rfl
          · simp
          · rw [Nat.one_mul]
            have : ((2 ^ (j % 8) : Nat) : Int) ≠ 0 := by omega
            simpa using this
        have HBT : Hid (∀ W, Calls Tryz.prog 30 #[.int .i64 (j : Int)] W fun e w' => e = .returned (.int .u8 (y : Int)) ∧ w' = W) := Lib.hid (fun W => by rw [hy]; exact bit_any j (by omega) W)
        have E1 : Hid (bitsH l (j + 1) = if r = true then putL (j : Int) (bitsH l j) else bitsH l j) := Lib.hid (by rw [hr]; exact bitsH_put l j)
        clear hk ht hx hy hz hr
        cases r with
        | true =>
          rw [if_pos rfl] at E1
          go_wp2_with fail
          go_quiet (first | (go_at_call 30; with_reducible refine Calls.quiet_of_same (HBT.out _)))
          have HT2 := Lib.hid (HT.out.drewN nq)
          have HS := Lib.hid (rset_any j HT2.out.room hlt)
          go_wp2_with fail
          refine HS.out.mono ?_
          rintro e w6 ⟨rfl, hT6⟩
          have HT6 := Lib.hid (HT2.out.trans hT6)
          clear hT6
          go_wp2_with fail
          go_roundw
          case rel => exact ⟨j + 1, by omega, by go_num, by rw [E1.out]; exact HT6.out⟩
          case measure => simp [intOf]; omega
        | false =>
          rw [if_neg (by decide)] at E1
          go_wp2_with fail
          go_quiet (first | (go_at_call 30; with_reducible refine Calls.quiet_of_same (HBT.out _)))
          have HT2 := Lib.hid (HT.out.drewN nq)
          go_wp2_with fail
          go_roundw
          case rel => exact ⟨j + 1, by omega, by go_num, by rw [E1.out]; exact HT2.out⟩
          case measure => simp [intOf]; omega
      · obtain rfl : j = n := by omega
        go_wp2_with fail
        go_ret
        exact ⟨HT.out.under HB4.out HG.out HB4.out.size, .inl ⟨n1, n2, g, rfl, HT.out.room, HG.out⟩⟩
  · have HNW := Lib.hid (rnew_none (n : Int) (.slice none 0 0) w3 (by omega))
    have HIN := Lib.hid hin
    have HSZ := Lib.hid (size_none w3)
    clear hin
    go_wp2_with fail
    refine HNW.out.mono ?_
    rintro e w4 ⟨rfl, rfl⟩
    go_wp2_with fail
    refine HSZ.out.mono ?_
    rintro e w5 ⟨rfl, rfl⟩
    go_wp2_with fail
    go_loopw [19] (fun i wr => i = .int .i64 0 ∧ wr = w5) (fun _ _ => 0)
    case atStart => exact ⟨rfl, rfl⟩
    case round =>
      obtain ⟨rfl, rfl⟩ := hrel
      go_wp2_with fail
      go_ret
      exact ⟨HB3.out, .inr ⟨HIN.out, rfl⟩⟩

theorem same_text {a b : ByteArray} : (a.toList == b.toList) = decide (a = b) := by
  rw [Lib.toList_data, Lib.toList_data]
  by_cases h : a = b
  · subst h; simp
  · rw [decide_eq_false h]
    simp only [beq_eq_false_iff_ne, ne_eq]
    intro e
    exact h (ByteArray.ext (Array.toList_inj.1 e))
/-- What Read answers, by what is read out of the bytes. -/
def ReadAt (B : Nat) (r : Nat × List Int × Int) (e : Ending) (w' : World) : Prop :=
  (r.2.2 = 0 ∧ 1 ≤ r.1 ∧ ∃ g, e = .returned (.tuple #[.pointer (some ⟨g, 0, none⟩), .int .i64 0]) ∧ RoomAt w' g r.1 r.2.1 ∧ B ≤ g) ∨
  (r.2.2 ≠ 0 ∧ e = .returned (.tuple #[.pointer none, .int .i64 r.2.2]))
set_option maxRecDepth 100000 in
set_option maxHeartbeats 4000000 in
theorem rread_room (X : ByteArray) (w : World) :
    Calls Tryz.prog 21 #[.string X] w fun e w' => Below w.heap.size w w' ∧ ReadAt w.heap.size (readR X.data.toList) e w' := by
  have hxl : X.data.toList.length = X.size := (Lib.size_eq X).symm
  by_cases h256 : X.size = 256
  · have h256I : (X.size : Int) = 256 := by omega
    have HOP : Hid (∀ W, Calls Tryz.prog 37 #[.string X] W fun e w' => e = .returned (openV X.data.toList) ∧ Below W.heap.size W w') := Lib.hid (fun W => open_any X W (by omega))
    obtain ⟨L, hL⟩ : ∃ L, L = (openB X.data.toList).1 := ⟨_, rfl⟩
    obtain ⟨eo, heo⟩ : ∃ eo, eo = (openB X.data.toList).2 := ⟨_, rfl⟩
    obtain ⟨BL, hBL⟩ : ∃ BL, BL = bs L := ⟨_, rfl⟩
    have hov : openV X.data.toList = .tuple #[.string BL, .int .i64 eo] := by unfold openV; rw [← hL, ← heo, hBL]; rfl
    rw [hov] at HOP
    by_cases he : eo = 0
    · have hL252 : L.length = 252 := by
        have := openB_ok (l := X.data.toList) (by rw [← heo]; exact he)
        rw [hL, this, List.length_take, hxl]
        omega
      have hR : readR X.data.toList = if ¬ (1 ≤ sizeN L ∧ sizeN L ≤ 1900) then (0, [], 6) else if roomT (sizeN L) (bitsH L (sizeN L)) = X.data.toList then (sizeN L, bitsH L (sizeN L), 0) else (0, [], 6) := by
        unfold readR
        rw [← hL, ← heo, if_neg (by omega), if_neg (by omega)]
      rw [hR]
      have HPA : Hid (∀ W, Calls Tryz.prog 38 #[.string BL] W fun e w' => Below W.heap.size W w' ∧ ((1 ≤ sizeN L ∧ sizeN L ≤ 1900 ∧ ∃ g, e = .returned (.pointer (some ⟨g, 0, none⟩)) ∧ RoomAt w' g (sizeN L) (bitsH L (sizeN L)) ∧ W.heap.size ≤ g) ∨ (¬ (1 ≤ sizeN L ∧ sizeN L ≤ 1900) ∧ e = .returned (.pointer none)))) := Lib.hid (fun W => by rw [hBL]; exact rparse_any L W hL252)
      obtain ⟨n, hn⟩ : ∃ n, n = sizeN L := ⟨_, rfl⟩
      obtain ⟨H, hH⟩ : ∃ H, H = bitsH L n := ⟨_, rfl⟩
      rw [← hn, ← hH] at HPA ⊢
      obtain ⟨R, hRR⟩ : ∃ R : Nat × List Int × Int, R = if ¬ (1 ≤ n ∧ n ≤ 1900) then (0, [], 6) else if roomT n H = X.data.toList then (n, H, 0) else (0, [], 6) := ⟨_, rfl⟩
      rw [← hRR]
      have HRR := Lib.hid hRR
      obtain ⟨T, hT⟩ : ∃ T, T = bs (roomT n H) := ⟨_, rfl⟩
      have hTX : (T = X) ↔ roomT n H = X.data.toList := by
        rw [hT]
        constructor
        · intro h; rw [← h, bs_list]
        · intro h; rw [h, list_bs]
      have HTX := Lib.hid hTX
      have HTT := Lib.hid hT
      have HEM : Hid (¬ ByteArray.empty = X) := Lib.hid (fun h => by rw [← h] at h256; exact absurd h256 (by decide))
      subst he
      clear hov hL heo hBL hL252 hR hn hH hTX hT hxl h256 hRR
      go_enter Tryz.func21, Tryz.ntmps21
      go_wp2_with fail
      refine (HOP.out _).mono ?_
      rintro e w1 ⟨rfl, hb1⟩
      have HB1 := Lib.hid hb1
      clear hb1
      go_wp2_with fail
      refine (HPA.out _).mono ?_
      rintro e w2 ⟨hb2, h | h⟩
      · obtain ⟨n1, n2, g, rfl, hr, hg⟩ := h
        have HB2 := Lib.hid (HB1.out.trans (hb2.mono HB1.out.size))
        have HR2 := Lib.hid hr
        have HG := Lib.hid (Nat.le_trans HB1.out.size hg)
        have HLY : Hid (Calls Tryz.prog 20 #[.pointer (some ⟨g, 0, none⟩)] w2 fun e w' => e = .returned (.tuple #[.string T, .int .i64 0]) ∧ Below w2.heap.size w2 w') := Lib.hid (by rw [HTT.out]; exact rlay_room hr n1)
        have HNN := Lib.hid (And.intro n1 n2)
        clear hb2 hr hg n1 n2
        go_wp2_with fail
        refine HLY.out.mono ?_
        rintro e w3 ⟨rfl, hb3⟩
        have HB3 := Lib.hid (HB2.out.trans (hb3.mono HB2.out.size))
        have HR3 := Lib.hid (HR2.out.below hb3)
        clear hb3
        by_cases hs : T = X
        · have hse : (T.toList == X.toList) = true := by rw [same_text]; exact decide_eq_true hs
          have HS := Lib.hid hs
          clear hs
          go_wp2_with fail
          go_ret2
          rw [HRR.out, if_neg (fun h => h HNN.out), if_pos (HTX.out.1 HS.out)]
          exact ⟨HB3.out, .inl ⟨rfl, HNN.out.1, g, rfl, HR3.out, HG.out⟩⟩
        · have hse : (T.toList == X.toList) = false := by rw [same_text]; exact decide_eq_false hs
          have HS := Lib.hid hs
          clear hs
          go_wp2_with fail
          go_ret2
          rw [HRR.out, if_neg (fun h => h HNN.out), if_neg (fun h => HS.out (HTX.out.2 h))]
          exact ⟨HB3.out, .inr ⟨by decide, rfl⟩⟩
      · obtain ⟨hno, rfl⟩ := h
        have HB2 := Lib.hid (HB1.out.trans (hb2.mono HB1.out.size))
        have HNO := Lib.hid hno
        have HLY := Lib.hid (rlay_none w2)
        have hse : X.toList.isEmpty = false := by
          rw [Lib.toList_data]
          cases hl : X.data.toList with
          | nil =>
            exfalso
            apply HEM.out
            apply ByteArray.ext
            apply Array.toList_inj.1
            rw [hl]
            rfl
          | cons _ _ => rfl
        clear hb2 hno
        go_wp2_with fail
        refine HLY.out.mono ?_
        rintro e w3 ⟨rfl, rfl⟩
        go_wp2_with fail
        go_ret2
        rw [HRR.out, if_pos HNO.out]
        exact ⟨HB2.out, .inr ⟨by decide, rfl⟩⟩
    · have hR : readR X.data.toList = (0, [], eo) := by
        unfold readR
        rw [← heo, if_neg (by omega), if_pos he]
      rw [hR]
      have HE := Lib.hid he
      clear hov hL heo hBL hR hxl h256
      go_enter Tryz.func21, Tryz.ntmps21
      go_wp2_with fail
      refine (HOP.out _).mono ?_
      rintro e w1 ⟨rfl, hb1⟩
      have HB1 := Lib.hid hb1
      clear hb1
      go_wp2_with fail
      go_ret2
      exact ⟨HB1.out, .inr ⟨HE.out, rfl⟩⟩
  · have h256I : ¬ (X.size : Int) = 256 := by omega
    have hR : readR X.data.toList = (0, [], 5) := by unfold readR; rw [if_pos (by omega)]
    rw [hR]
    clear hR hxl
    go_enter Tryz.func21, Tryz.ntmps21
    go_wp2_with fail
    go_ret2
    exact ⟨Below.refl _ _, .inr ⟨by decide, rfl⟩⟩
end Go.Proofs.YtbaanoomilohhaaGreat
