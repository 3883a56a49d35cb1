/-
  RoomPlays: the law's walk. No statement is proved here.
-/
import Derived.Test.YtbaanoomilohhaaGreatRoomPlaysMid
import Derived.Test.YtbaanoomilohhaaGreatIntsView
import Derived.Test.YtbaanoomilohhaaGreatLoose
import Derived.Deep.AppendLies
import Derived.Deep.DeepCutAuto
import Derived.Deep.CutBlock
import Derived.Deep.CutRange
namespace Go.Proofs.YtbaanoomilohhaaGreat
open Go.RowKit


theorem ints_blk4 {w : World} {b : Nat} {k0 k1 k2 k3 : Int} (h : Blk w b 3 #[.int .i64 k0, .int .i64 k1, .int .i64 k2, .int .i64 k3]) : Ints w w.heap.size (some ⟨b, 0, none⟩) [k0, k1, k2, k3] := by
  intro _
  refine ⟨b, 0, rfl, h.lt, fun j x hx => ?_⟩
  match j, hx with
  | 0, hx =>
    obtain rfl : k0 = x := by simpa using hx
    exact h.cell 0
  | 1, hx =>
    obtain rfl : k1 = x := by simpa using hx
    exact h.cell 1
  | 2, hx =>
    obtain rfl : k2 = x := by simpa using hx
    exact h.cell 2
  | 3, hx =>
    obtain rfl : k3 = x := by simpa using hx
    exact h.cell 3
/-- An act on a room as it lies in memory. -/
structure Op10 where
  kind : Int
  la : Option Addr
  lc : Nat
  l : List Int
def Op10.cells (d : Op10) : Array Value := #[.int .i64 d.kind, .slice d.la d.l.length d.lc]
structure Op10.In (d : Op10) (w : World) (B : Nat) : Prop where
  ls : Ints w B d.la d.l
  ln : d.la = none → d.l.length = 0 ∧ d.lc = 0
  few : d.l.length ≤ 9223372036854775807
def Acts10 (w : World) (B : Nat) (A : Option Addr) (ds : List Op10) : Prop :=
  0 < ds.length → ∃ b off, A = some ⟨b, off, none⟩ ∧ b < w.heap.size ∧ ∀ (j : Nat) (d : Op10), ds[j]? = some d → w.cell? ⟨b, off + j * 2, none⟩ = some (.int .i64 d.kind) ∧ w.cell? ⟨b, off + j * 2 + 1, none⟩ = some (.slice d.la d.l.length d.lc) ∧ d.In w B

set_option maxRecDepth 100000 in
theorem roomplays_out (n : Int) (A1 : Option Addr) (m1 c1 : Nat) (A2 : Option Addr) (m2 c2 : Nat) (at_ : Int) (b : ByteArray) (own : Bool) (w : World) (h : 300 < m1 ∨ 60 < m2 ∨ 300 < b.size) :
    Calls Tryz.prog 3 #[.int .i64 n, .slice A1 m1 c1, .slice A2 m2 c2, .int .i64 at_, .string b, .bool own] w fun e w' => e = .returned (.bool true) ∧ Below w.heap.size w w' := by
  have HAL := Lib.hid (alive10_any w)
  go_enter Tryz.func3, Tryz.ntmps3
  by_cases a1 : 300 < m1
  · have a1' : (300 : Int) < (m1 : Int) := by omega
    go_wp2_with fail
    refine HAL.out.mono ?_
    rintro e w1 ⟨rfl, hb⟩
    have HB := Lib.hid hb
    clear hb
    go_wp2_with fail
    go_ret
    exact ⟨rfl, HB.out⟩
  by_cases a2 : 60 < m2
  · have a1' : ¬ (300 : Int) < (m1 : Int) := by omega
    have a2' : (60 : Int) < (m2 : Int) := by omega
    go_wp2_with fail
    refine HAL.out.mono ?_
    rintro e w1 ⟨rfl, hb⟩
    have HB := Lib.hid hb
    clear hb
    go_wp2_with fail
    go_ret
    exact ⟨rfl, HB.out⟩
  · have a1' : ¬ (300 : Int) < (m1 : Int) := by omega
    have a2' : ¬ (60 : Int) < (m2 : Int) := by omega
    have a3' : (300 : Int) < (b.size : Int) := by omega
    go_wp2_with fail
    refine HAL.out.mono ?_
    rintro e w1 ⟨rfl, hb⟩
    have HB := Lib.hid hb
    clear hb
    go_wp2_with fail
    go_ret
    exact ⟨rfl, HB.out⟩

set_option maxRecDepth 100000 in
set_option maxHeartbeats 40000000 in
theorem roomplays_in (n : Int) (A1 : Option Addr) (m1 c1 : Nat) (l1 : List Int) (A2 : Option Addr) (m2 c2 : Nat) (ds : List Op10) (at_ : Int) (b : ByteArray) (own : Bool) (w : World) (hm1 : m1 ≤ 300) (hm2 : m2 ≤ 60) (hb3 : b.size ≤ 300) (i1 : IntsV w A1 m1 c1 l1) (hd : ds.length = m2) (hA2 : Acts10 w w.heap.size A2 ds) :
    Calls Tryz.prog 3 #[.int .i64 n, .slice A1 m1 c1, .slice A2 m2 c2, .int .i64 at_, .string b, .bool own] w fun e w' => e = .returned (.bool true) ∧ Below w.heap.size w w' := by
  have HAL := Lib.hid (alive10_any w)
  have HI1 := Lib.hid i1
  have HM1 := Lib.hid i1.len
  have HM2 := Lib.hid hd
  have HACT : Hid (∀ W, Below w.heap.size w W → Acts10 W w.heap.size A2 ds) := Lib.hid (fun W hW hp => by
    obtain ⟨b, off, e, hb, hc⟩ := hA2 hp
    refine ⟨b, off, e, Nat.lt_of_lt_of_le hb hW.size, fun j d hj => ?_⟩
    obtain ⟨q0, q1, q2⟩ := hc j d hj
    exact ⟨(hW.cell (p := ⟨b, off + j * 2, none⟩) hb).trans q0, (hW.cell (p := ⟨b, off + j * 2 + 1, none⟩) hb).trans q1, ⟨q2.ls.below hW, q2.ln, q2.few⟩⟩)
  have a1 : (m1 : Int) ≤ 300 := by omega
  have a2 : (m2 : Int) ≤ 60 := by omega
  have a3 : (b.size : Int) ≤ 300 := by omega
  have HA3 := Lib.hid hb3
  clear i1 hA2 hd hb3
  go_enter Tryz.func3, Tryz.ntmps3
  go_wp2_with fail
  refine HAL.out.mono ?_
  rintro e w1 ⟨rfl, hb1⟩
  have HB1 := Lib.hid hb1
  have HX1 : Hid (∀ W, Below w1.heap.size w1 W → Ints W W.heap.size A1 l1) := Lib.hid (fun W hW => (HI1.out.lie.below (hb1.trans (hW.mono hb1.size))).more (Nat.le_trans hb1.size hW.size))
  have HLT := Lib.hid (klent_any A1 m1 c1 l1 w1 HM1.out (HX1.out _ (Below.refl _ _)) (by omega) (fun e => (HI1.out.nil_ e).2))
  clear hb1 HAL
  go_wp2_with fail
  refine HLT.out.mono ?_
  rintro e w2 ⟨g2, cap2, rfl, hl2, hb2⟩
  have HB2 := Lib.hid hb2
  have HL2 := Lib.hid hl2
  have HG2 : Hid (∀ W, Below w2.heap.size w2 W → LentK W w1.heap.size g2 cap2 l1) := Lib.hid (fun W hW => hl2.below hW)
  have HST : Hid (∀ W, Below w2.heap.size w2 W → Calls Tryz.prog 8 #[.slice (some ⟨g2, 0, none⟩) m1 cap2, .slice A1 m1 c1] W fun e w' => e = .returned (.bool true) ∧ ∃ d, w' = W.drewN d) := Lib.hid (fun W hW => kstays_any g2 cap2 A1 m1 c1 l1 w1.heap.size W HM1.out (hl2.below hW) (HX1.out W (hb2.trans (hW.mono hb2.size))) (by omega))
  clear hl2 hb2 HLT
  by_cases hn : 1 ≤ n ∧ n ≤ 1900
  · obtain ⟨n1, n2⟩ := hn
    obtain ⟨N, rfl⟩ := Int.eq_ofNat_of_zero_le (show 0 ≤ n by omega)
    have hN1 : 1 ≤ N := by omega
    have hN2 : N ≤ 1900 := by omega
    have HNW := Lib.hid (rnew_any N (some ⟨g2, 0, none⟩) m1 cap2 l1 w2 hN1 hN2 HM1.out HL2.out.ints (by omega))
    obtain ⟨good, hgood⟩ : ∃ good : Bool, good = decide (∀ x ∈ l1, 0 ≤ x ∧ x < (N : Int)) := ⟨_, rfl⟩
    have HGD := Lib.hid hgood
    clear hgood
    go_wp2_with fail
    refine HNW.out.mono ?_
    rintro e w3 ⟨hb3, hcase⟩
    have HB3 := Lib.hid hb3
    have HNEW : Hid (∃ (p : Option Addr) (E : Int), e = .returned (.tuple #[.pointer p, .int .i64 E]) ∧ ((good = true ∧ p = some ⟨w2.heap.size, 0, none⟩ ∧ E = 0 ∧ RoomAt w3 w2.heap.size N (putEach l1)) ∨ (good = false ∧ p = none ∧ E = 1))) := Lib.hid (by
      rcases hcase with ⟨h, rfl, hr⟩ | ⟨h, rfl⟩
      · exact ⟨_, _, rfl, .inl ⟨by rw [HGD.out]; exact decide_eq_true h, rfl, rfl, hr⟩⟩
      · exact ⟨_, _, rfl, .inr ⟨by rw [HGD.out]; exact decide_eq_false h, rfl, rfl⟩⟩)
    clear hb3 hcase HNW
    obtain ⟨p, E, rfl, hcase⟩ := HNEW.out
    have HCASE := Lib.hid hcase
    clear hcase HNEW
    go_wp2_with fail
    go_loopw [16, 17, 18] (fun gv hv i wr => ∃ (j : Nat) (gd : Bool) (xs : List Int) (A : Option Addr) (c : Nat), j ≤ m1 ∧ i = .int .i64 j ∧ gv = .bool gd ∧ (gd = true ↔ ∀ x ∈ l1.take j, 0 ≤ x ∧ x < (N : Int)) ∧ xs = putEach (l1.take j) ∧ xs.length ≤ j ∧ hv = .slice A xs.length c ∧ wr.ownsRow w3.heap.size 3 1 (.slice A xs.length c) xs.length (xs.map (Value.int .i64)) ∧ Below w3.heap.size w3 wr) (fun _ _ i _ => m1 - (intOf i).toNat)
    case atStart => exact ⟨0, true, [], none, 0, Nat.zero_le _, rfl, rfl, by simp, rfl, Nat.le_refl _, rfl, World.ownsRow_nil _ _ _ _, Below.refl _ _⟩
    case round =>
      obtain ⟨j, gd, xs, A, c, hj, rfl, rfl, hgd, hxs, hxl, rfl, hrow, hbr⟩ := hrel
      have HGJ := Lib.hid hgd
      have HXS := Lib.hid hxs
      have HRW := Lib.hid hrow
      have HBR := Lib.hid hbr
      clear hgd hxs hrow hbr
      by_cases hgo : j < m1 ∧ gd = true
      · obtain ⟨hlt, rfl⟩ := hgo
        have hjl : j < l1.length := by rw [HM1.out]; exact hlt
        obtain ⟨b0, off, hA, hbB, hc⟩ := HX1.out _ ((HB2.out.trans (HB3.out.mono HB2.out.size)).trans (HBR.out.mono (Nat.le_trans HB2.out.size HB3.out.size))) (by omega)
        obtain ⟨x, hx⟩ : ∃ x, x = l1[j] := ⟨_, rfl⟩
        have hxj : l1[j]? = some x := by rw [hx]; exact List.getElem?_eq_getElem hjl
        have d0 := hc j x hxj
        have E2 : Hid (putEach (l1.take (j + 1)) = putL x xs) := Lib.hid (by rw [putEach_snoc hxj, HXS.out])
        have E3 : Hid (l1.take (j + 1) = l1.take j ++ [x]) := Lib.hid (by rw [List.take_add_one, hxj]; rfl)
        have HLE := Lib.hid (putL_le x xs)
        have HPT : Hid (Calls Tryz.prog 7 #[.slice A xs.length c, .int .i64 x] wr fun e w' => ∃ A' c', e = .returned (.slice A' (putL x xs).length c') ∧ w'.ownsRow w3.heap.size 3 1 (.slice A' (putL x xs).length c') (putL x xs).length ((putL x xs).map (Value.int .i64)) ∧ Below wr.heap.size wr w') := Lib.hid (rput_any x A c xs.length xs w3.heap.size wr rfl HRW.out (by omega) HBR.out.size)
        have hjI : (j : Int) < (m1 : Int) := by omega
        subst hA
        clear hx hxj hc hjl
        by_cases h0 : 0 ≤ x
        · by_cases h1 : x < (N : Int)
          · have HIN := Lib.hid (And.intro h0 h1)
            have HGN : Hid (∀ y ∈ l1.take (j + 1), 0 ≤ y ∧ y < (N : Int)) := Lib.hid (fun y hy => by
              rw [E3.out] at hy
              rcases List.mem_append.1 hy with hy | hy
              · exact HGJ.out.1 rfl y hy
              · rw [List.mem_singleton.1 hy]; exact HIN.out)
            go_wp2_with fail
            refine HPT.out.mono ?_
            rintro e w4 ⟨A', c', rfl, hrow, hb⟩
            have HR4 := Lib.hid hrow
            have HB4 := Lib.hid (HBR.out.trans (hb.mono HBR.out.size))
            clear hrow hb
            go_wp2_with fail
            go_roundw
            case rel => exact ⟨j + 1, true, putL x xs, A', c', by omega, by go_num, rfl, ⟨fun _ => HGN.out, fun _ => rfl⟩, E2.out.symm, by have := HLE.out; omega, rfl, HR4.out, HB4.out⟩
            case measure => simp [intOf]; omega
          · have h1' : (N : Int) ≤ x := by omega
            have HGN : Hid (((false : Bool) = true) ↔ ∀ y ∈ l1.take (j + 1), 0 ≤ y ∧ y < (N : Int)) := Lib.hid ⟨fun h => (by cases h), fun h => by
              have := h x (by rw [E3.out]; simp)
              omega⟩
            go_wp2_with fail
            refine HPT.out.mono ?_
            rintro e w4 ⟨A', c', rfl, hrow, hb⟩
            have HR4 := Lib.hid hrow
            have HB4 := Lib.hid (HBR.out.trans (hb.mono HBR.out.size))
            clear hrow hb
            go_wp2_with fail
            go_roundw
            case rel => exact ⟨j + 1, false, putL x xs, A', c', by omega, by go_num, rfl, HGN.out, E2.out.symm, by have := HLE.out; omega, rfl, HR4.out, HB4.out⟩
            case measure => simp [intOf]; omega
        · have h0' : x < 0 := by omega
          have HGN : Hid (((false : Bool) = true) ↔ ∀ y ∈ l1.take (j + 1), 0 ≤ y ∧ y < (N : Int)) := Lib.hid ⟨fun h => (by cases h), fun h => by
            have := h x (by rw [E3.out]; simp)
            omega⟩
          go_wp2_with fail
          refine HPT.out.mono ?_
          rintro e w4 ⟨A', c', rfl, hrow, hb⟩
          have HR4 := Lib.hid hrow
          have HB4 := Lib.hid (HBR.out.trans (hb.mono HBR.out.size))
          clear hrow hb
          go_wp2_with fail
          go_roundw
          case rel => exact ⟨j + 1, false, putL x xs, A', c', by omega, by go_num, rfl, HGN.out, E2.out.symm, by have := HLE.out; omega, rfl, HR4.out, HB4.out⟩
          case measure => simp [intOf]; omega
      · have HBW : Hid (Below w2.heap.size w2 wr) := Lib.hid (HB3.out.trans (HBR.out.mono HB3.out.size))
        have HBA : Hid (Below w.heap.size w wr) := Lib.hid ((HB1.out.trans (HB2.out.mono HB1.out.size)).trans (HBW.out.mono (Nat.le_trans HB1.out.size HB2.out.size)))
        cases gd with
        | false =>
          have hbad : good = false := by
            rw [HGD.out]
            refine decide_eq_false fun h => ?_
            exact absurd (HGJ.out.2 (fun x hx => h x (List.mem_of_mem_take hx))) (by decide)
          have hpe : p = none ∧ E = 1 := by
            rcases HCASE.out with ⟨h, _⟩ | ⟨_, h1, h2⟩
            · rw [hbad] at h; cases h
            · exact ⟨h1, h2⟩
          obtain ⟨rfl, rfl⟩ := hpe
          have HSC := Lib.hid (HST.out _ HBW.out)
          clear hbad hgo
          by_cases hlt : j < m1
          · have hjI : (j : Int) < (m1 : Int) := by omega
            go_wp2_with fail
            refine HSC.out.mono ?_
            rintro e w4 ⟨rfl, d, rfl⟩
            go_wp2_with fail
            go_ret
            exact ⟨rfl, ⟨HBA.out.os, HBA.out.tape, HBA.out.output, HBA.out.size, HBA.out.block⟩⟩
          · obtain rfl : j = m1 := by omega
            go_wp2_with fail
            refine HSC.out.mono ?_
            rintro e w4 ⟨rfl, d, rfl⟩
            go_wp2_with fail
            go_ret
            exact ⟨rfl, ⟨HBA.out.os, HBA.out.tape, HBA.out.output, HBA.out.size, HBA.out.block⟩⟩
        | true =>
          have hjm : ¬ j < m1 := fun h => hgo ⟨h, rfl⟩
          obtain rfl : j = m1 := by omega
          have htk : l1.take j = l1 := List.take_of_length_le (by rw [HM1.out]; exact Nat.le_refl _)
          rw [htk] at HXS HGJ
          have hok : good = true := by rw [HGD.out]; exact decide_eq_true (HGJ.out.1 rfl)
          have hpe : p = some ⟨w2.heap.size, 0, none⟩ ∧ E = 0 ∧ RoomAt w3 w2.heap.size N (putEach l1) := by
            rcases HCASE.out with ⟨_, h1, h2, h3⟩ | ⟨h, _⟩
            · exact ⟨h1, h2, h3⟩
            · rw [hok] at h; cases h
          obtain ⟨rfl, rfl, hr3⟩ := hpe
          obtain ⟨gr0, hgr0⟩ : ∃ gr, gr = w2.heap.size := ⟨_, rfl⟩
          rw [← hgr0] at hr3 ⊢
          have HR3 : Hid (RoomAt wr gr0 N xs) := Lib.hid (by rw [HXS.out]; exact hr3.below HBR.out)
          have HGR : Hid (w.heap.size ≤ gr0) := Lib.hid (by rw [hgr0]; exact Nat.le_trans HB1.out.size HB2.out.size)
          have HRW' : Hid (wr.ownsRow w.heap.size 3 1 (.slice A xs.length c) xs.length (xs.map (Value.int .i64))) := Lib.hid (row_lower HRW.out (Nat.le_trans (Nat.le_trans HB1.out.size HB2.out.size) HB3.out.size))
          clear hjm htk hok hr3 hgr0 HCASE HGD HGJ HXS HRW HBR HST HG2 HL2 HX1 hgo
          obtain ⟨w4, hw4⟩ : ∃ w4, w4 = wr := ⟨_, rfl⟩
          subst hw4
          go_wp2_with fail
          obtain ⟨w5, hw5⟩ : ∃ w5, w5 = w4.alloc (.cells (bookI (.slice none 0 0) (.slice none 0 0)) 42) := ⟨_, rfl⟩
          have hbook := BookAt.start w4
          rw [← hw5] at hbook
          have hb5 : Below w4.heap.size w4 w5 := by rw [hw5]; exact (Below.refl _ _).alloc (Nat.le_refl _) _
          unfold bookI at hw5
          rw [← hw5]
          obtain ⟨B, hB⟩ : ∃ B, B = w4.heap.size := ⟨_, rfl⟩
          rw [← hB] at hbook ⊢
          have HP0 : Hid (Pl10 w w5 B gr0 B N 0 xs [] A c) := Lib.hid ⟨HR3.out.below hb5, hbook, row_below HRW'.out hb5, HGR.out, by rw [hB]; exact HBA.out.size, HBA.out.trans (hb5.mono HBA.out.size)⟩
          clear hw5 hbook hb5 hB HR3 HRW' HGR HBA HBW HB3 HB2 HB1
          go_loopw [14, 17, 20] (fun vr hv i wx => ∃ (a gr k : Nat) (H : List Int) (ls : List LI) (A : Option Addr) (c : Nat), a ≤ m2 ∧ k = a ∧ vr = .pointer (some ⟨gr, 0, none⟩) ∧ hv = .slice A H.length c ∧ i = .int .i64 a ∧ Pl10 w wx B gr B N k H ls A c) (fun _ _ i _ => m2 - (intOf i).toNat)
          case atStart => exact ⟨0, gr0, 0, xs, [], A, c, Nat.zero_le _, rfl, rfl, rfl, rfl, HP0.out⟩
          case round =>
            clear HP0
            obtain ⟨a, gr, k, H, ls, A, c, ha, hk, rfl, rfl, rfl, hp⟩ := hrel
            have HP := Lib.hid hp
            have HK := Lib.hid hk
            clear hp hk
            by_cases hlt : a < m2
            · have hal : a < ds.length := by rw [HM2.out]; exact hlt
              obtain ⟨b0, off, hA, hbB, hc⟩ := HACT.out _ HP.out.below (by omega)
              obtain ⟨d, hd⟩ : ∃ d, d = ds[a] := ⟨_, rfl⟩
              have hdj : ds[a]? = some d := by rw [hd]; exact List.getElem?_eq_getElem hal
              obtain ⟨c0, c1', cIn⟩ := hc a d hdj
              have HIN := Lib.hid cIn
              obtain ⟨kd, la, lc, l⟩ := d
              simp only at c0 c1'
              have haI : (a : Int) < (m2 : Int) := by omega
              subst hA
              clear hc hd hdj hal cIn
              go_upto_region 21 with fail
              obtain ⟨W0, hW0⟩ : ∃ W0, W0 = wr.alloc (.cells #[.int .i64 kd, .slice la l.length lc] 44) := ⟨_, rfl⟩
              rw [← hW0]
              have hwb : Below wr.heap.size wr W0 := by rw [hW0]; exact (Below.refl _ _).alloc (Nat.le_refl _) _
              obtain ⟨og, hog⟩ : ∃ og, og = wr.heap.size := ⟨_, rfl⟩
              have HX : Hid (Blk W0 og 44 #[.int .i64 kd, .slice la l.length lc]) := Lib.hid (by rw [hW0, hog]; exact Blk.new wr _ _)
              rw [← hog]
              have HP0 := Lib.hid (HP.out.calls hwb)
              have HIN0 : Hid (∀ W, Below w.heap.size wr W → Ints W w.heap.size la l) := Lib.hid (fun W hW => HIN.out.ls.below hW)
              have HWW : Hid (Below w.heap.size wr W0) := Lib.hid (hwb.mono HP.out.below.size)
              have HLN := Lib.hid HIN.out.ln
              have x0 := HX.out.cell 0
              have x1 := HX.out.cell 1
              simp at x0 x1
              clear hwb hW0 c0 c1' HIN hog
              go_upto_block 4 with fail
              go_cut [14, 17, 22, 23, 24, 25, 26, 27, 28] from 137 to 230 (fun v14 v17 _ _ _ _ _ _ _ wx => ∃ (gr : Nat) (H : List Int) (A : Option Addr) (c : Nat), v14 = .pointer (some ⟨gr, 0, none⟩) ∧ v17 = .slice A H.length c ∧ Pl10 w wx B gr B N k H ls A c)
              case first =>
                by_cases k1 : kd = 1
                · as_aux_lemma =>
                  subst k1
                  have hLn : H.length ≤ 1900 := Nat.le_trans HP0.out.room.ok.few hN2
                  have HROW0 := Lib.hid HP0.out.ints
                  clear x1 HX HIN0 HLN HWW
                  go_upto_block 5 with fail
                  go_cut [22] from 149 to 162 (fun v wx => ∃ t : Nat, v = .int .i64 t ∧ Least H t ∧ wx = W0)
                  case first =>
                    go_wp2_with fail
                    go_loopw [22] (fun v wx => ∃ t : Nat, t ≤ H.length ∧ v = .int .i64 t ∧ (∀ i : Nat, i < t → H[i]? = some (i : Int)) ∧ wx = W0) (fun v _ => H.length - (intOf v).toNat)
                    case atStart => exact ⟨0, Nat.zero_le _, rfl, (fun i hi => by omega), rfl⟩
                    case round =>
                      obtain ⟨t, ht, rfl, hpre, rfl⟩ := hrel
                      have HPRE := Lib.hid hpre
                      clear hpre
                      by_cases htl : t < H.length
                      · have htlI : (t : Int) < (H.length : Int) := by omega
                        obtain ⟨bh, offh, hAh, hbh, hch⟩ := HROW0.out (by omega)
                        obtain ⟨y, hy⟩ : ∃ y, y = H[t] := ⟨_, rfl⟩
                        have hyt : H[t]? = some y := by rw [hy]; exact List.getElem?_eq_getElem htl
                        have dh := hch t y hyt
                        have HYT := Lib.hid hyt
                        subst hAh
                        clear hy hyt hch
                        by_cases hyy : y = (t : Int)
                        · subst hyy
                          go_wp2_with fail
                          go_roundw
                          case rel => exact ⟨t + 1, by omega, by go_num, (fun i hi => by
                            rcases Nat.lt_or_ge i t with h' | h'
                            · exact HPRE.out i h'
                            · obtain rfl : i = t := by omega
                              exact HYT.out), by first | rfl | trivial⟩
                          case measure => simp [intOf]; omega
                        · have hls := Lib.hid (Least.of HP0.out.room.ok HPRE.out (by rw [HYT.out]; exact fun e => hyy (Option.some.inj e)))
                          go_wp2_with fail
                          go_meet
                          exact ⟨t, rfl, hls.out, rfl⟩
                      · obtain rfl : t = H.length := by omega
                        have htlI : ¬ ((H.length : Nat) : Int) < (H.length : Int) := by omega
                        have hls := Lib.hid (Least.of HP0.out.room.ok HPRE.out (by rw [List.getElem?_eq_none (Nat.le_refl _)]; exact fun e => by cases e))
                        go_wp2_with fail
                        go_meet
                        exact ⟨H.length, rfl, hls.out, rfl⟩
                  case rest =>
                  obtain ⟨t, rfl, hls, rfl⟩ := hcut
                  have HTA : Hid (Calls Tryz.prog 9 #[.pointer (some ⟨gr, 0, none⟩)] wc fun e w' => (t < N ∧ e = .returned (.tuple #[.int .i64 (t : Int), .int .i64 0]) ∧ RoomTurns wc w' gr N (putL (t : Int) H)) ∨ (t = N ∧ e = .returned (.tuple #[.int .i64 0, .int .i64 20]) ∧ w' = wc)) := Lib.hid (rtake_any HP0.out.room hls)
                  clear hls
                  go_wp2_with fail
                  refine HTA.out.mono ?_
                  rintro e w6 (⟨htN, rfl, hT⟩ | ⟨htN, rfl, rfl⟩)
                  · have htI : ¬ (t : Int) = (N : Int) := by omega
                    have htI' : ¬ t = N := by omega
                    have HO6 := Lib.hid (HP0.out.off.turned hT)
                    have HPT : Hid (Calls Tryz.prog 7 #[.slice A H.length c, .int .i64 (t : Int)] w6 fun e w' => ∃ A' c', e = .returned (.slice A' (putL (t : Int) H).length c') ∧ w'.ownsRow w.heap.size 3 1 (.slice A' (putL (t : Int) H).length c') (putL (t : Int) H).length ((putL (t : Int) H).map (Value.int .i64)) ∧ Below w6.heap.size w6 w') := Lib.hid (rput_any (t : Int) A c H.length H w.heap.size w6 rfl HO6.out.row (by omega) HO6.out.below.size)
                    clear hT htN
                    go_wp2_with fail
                    refine HPT.out.mono ?_
                    rintro e w7 ⟨A', c', rfl, hrow, hb⟩
                    have HP7 := Lib.hid (HO6.out.listed hb (Nat.le_refl _) hrow).on
                    clear hrow hb
                    go_wp2_with fail
                    go_meet
                    exact ⟨gr, _, A', c', rfl, rfl, HP7.out⟩
                  · subst htN
                    go_wp2_with fail
                    go_meet
                    exact ⟨gr, H, A, c, rfl, rfl, HP0.out⟩
                by_cases k2 : kd = 2
                · as_aux_lemma =>
                  subst k2
                  by_cases hbig : 60 < l.length
                  · have hbigI : (60 : Int) < (l.length : Int) := by omega
                    go_wp2_with fail
                    go_ret
                    exact ⟨rfl, HP0.out.below⟩
                  · have hbigI : ¬ (60 : Int) < (l.length : Int) := by omega
                    have HLT : Hid (Calls Tryz.prog 5 #[.slice la l.length lc] W0 fun e w' => ∃ g cap, e = .returned (.slice (some ⟨g, 0, none⟩) l.length cap) ∧ LentK w' W0.heap.size g cap l ∧ Below W0.heap.size W0 w') := Lib.hid (klent_any la l.length lc l W0 rfl ((HIN0.out W0 HWW.out).more HP0.out.below.size) (by omega) (fun e => (HLN.out e).2))
                    clear x0
                    go_wp2_with fail
                    refine HLT.out.mono ?_
                    rintro e w6 ⟨g6, cap6, rfl, hl6, hb6⟩
                    have HL6 := Lib.hid hl6
                    have HX6 : Hid (Blk w6 og 44 #[.int .i64 2, .slice la l.length lc]) := Lib.hid (HX.out.below hb6 HX.out.lt)
                    have HP6 := Lib.hid (HP0.out.off.calls hb6)
                    have HG6 : Hid (g6 ≠ gr) := Lib.hid (by have := hl6.1; have := HP0.out.room.lt; omega)
                    have HW6 : Hid (Below w.heap.size wr w6) := Lib.hid (HWW.out.trans (hb6.mono HP0.out.below.size))
                    clear hl6 hb6 x1 HLT HP0 HX HWW
                    go_wp2_with fail
                    go_loopw [17, 26, 27] (fun hv kv jv wx => ∃ (j : Nat) (G : List Int) (kk : Nat) (A : Option Addr) (c : Nat), j ≤ l.length ∧ jv = .int .i64 j ∧ kv = .int .i64 kk ∧ giveL H (l.take j) = (G, kk) ∧ hv = .slice A G.length c ∧ Off10 w wx B gr B N k G H ls A c ∧ Below w6.heap.size w6 wx) (fun _ _ i _ => l.length - (intOf i).toNat)
                    case atStart => exact ⟨0, H, 0, A, c, Nat.zero_le _, rfl, rfl, rfl, rfl, HP6.out, Below.refl _ _⟩
                    case round =>
                      obtain ⟨j, G, kk, A, c, hj, rfl, rfl, hgl, rfl, hoff, hbx⟩ := hrel
                      have HGL := Lib.hid hgl
                      have HOF := Lib.hid hoff
                      have HBX := Lib.hid hbx
                      have HGO : Hid (HOk N G) := Lib.hid (by have := giveL_ok HP6.out.room.ok (l.take j); rw [hgl] at this; exact this)
                      have HGF : Hid (G.length ≤ 1900) := Lib.hid (Nat.le_trans HGO.out.few hN2)
                      have hkk : kk ≤ 60 := by have := giveL_le H (l.take j); rw [hgl] at this; simp only [List.length_take] at this; omega
                      have y1 := (HX6.out.below HBX.out HX6.out.lt).cell 1
                      simp at y1
                      clear hgl hoff hbx
                      by_cases hlt : j < l.length
                      · have hltI : (j : Int) < (l.length : Int) := by omega
                        obtain ⟨bl, offl, hAl, hbl, hcl⟩ := HIN0.out _ (HW6.out.trans (HBX.out.mono (Nat.le_trans HP6.out.below.size (Nat.le_refl _)))) (by omega)
                        obtain ⟨y, hy⟩ : ∃ y, y = l[j] := ⟨_, rfl⟩
                        have hyj : l[j]? = some y := by rw [hy]; exact List.getElem?_eq_getElem hlt
                        have dl := hcl j y hyj
                        have HSN : Hid (giveL H (l.take (j + 1)) = giveS (G, kk) y) := Lib.hid (by rw [giveL_snoc H hyj, HGL.out])
                        have HAM := Lib.hid (ramong_any y A c G.length G wr rfl (row_ints HOF.out.row) (by have := HGF.out; omega))
                        obtain ⟨mb, hmb⟩ : ∃ mb, mb = decide (y ∈ G) := ⟨_, rfl⟩
                        rw [← hmb] at HAM
                        have HMB := Lib.hid hmb
                        subst hAl
                        clear hcl hy hyj hmb
                        cases mb with
                        | false =>
                          have HNO : Hid (giveS (G, kk) y = (G, kk)) := Lib.hid (by unfold giveS; rw [if_neg (of_decide_eq_false HMB.out.symm)])
                          go_wp2_with fail
                          refine HAM.out.mono ?_
                          rintro e w7 ⟨rfl, rfl⟩
                          go_wp2_with fail
                          go_roundw
                          case rel => exact ⟨j + 1, G, kk, A, c, by omega, by go_num, rfl, by rw [HSN.out, HNO.out], rfl, HOF.out, HBX.out⟩
                          case measure => simp [intOf]; omega
                        | true =>
                          have HYE : Hid (giveS (G, kk) y = (dropL y G, kk + 1)) := Lib.hid (by unfold giveS; rw [if_pos (of_decide_eq_true HMB.out.symm)])
                          have HDR := Lib.hid (rdrop_any y A c G.length G wr rfl (row_ints HOF.out.row) (by have := HGF.out; omega))
                          go_wp2_with fail
                          refine HAM.out.mono ?_
                          rintro e w7 ⟨rfl, rfl⟩
                          go_wp2_with fail
                          refine HDR.out.mono ?_
                          rintro e w7 ⟨A2, c2, rfl, hrow, hb7⟩
                          have HO7 := Lib.hid (HOF.out.listed hb7 HOF.out.below.size hrow)
                          have HB7 := Lib.hid (HBX.out.trans (hb7.mono HBX.out.size))
                          clear hrow hb7 y1 dl
                          go_wp2_with fail
                          go_roundw
                          case rel => exact ⟨j + 1, dropL y G, kk + 1, A2, c2, by omega, by go_num, by go_num, by rw [HSN.out, HYE.out], rfl, HO7.out, HB7.out⟩
                          case measure => simp [intOf]; omega
                      · obtain rfl : j = l.length := by omega
                        have hnI : ¬ ((l.length : Nat) : Int) < (l.length : Int) := by omega
                        have HGL2 : Hid (giveL H l = (G, kk)) := Lib.hid (by have := HGL.out; rwa [List.take_length] at this)
                        have HGV : Hid (Calls Tryz.prog 12 #[.pointer (some ⟨gr, 0, none⟩), .slice (some ⟨g6, 0, none⟩) l.length cap6] wr fun e w' => e = .returned (.int .i64 (kk : Int)) ∧ RoomTurns wr w' gr N G) := Lib.hid (by
                          have h := rgive_any (some ⟨g6, 0, none⟩) l.length cap6 l HOF.out.room rfl ((HL6.out.below HBX.out).ints) (fun a ha => by cases ha; exact HG6.out) (by omega)
                          rw [HGL2.out] at h
                          exact h)
                        clear hlt
                        go_wp2_with fail
                        refine HGV.out.mono ?_
                        rintro e w7 ⟨rfl, hT⟩
                        have HP7 := Lib.hid (HOF.out.turned hT).on
                        have HST7 := Lib.hid (kstays_any g6 cap6 la l.length lc l _ w7 rfl ((HL6.out.below HBX.out).turned hT HG6.out) ((HIN0.out w7 (hT.under (HW6.out.trans (HBX.out.mono HP6.out.below.size)) HOF.out.grB HOF.out.below.size)).more HP7.out.below.size) (by omega))
                        have y7 := ((HX6.out.below HBX.out HX6.out.lt).grownT (hT.grownT HOF.out.room) (by decide)).cell 1
                        simp at y7
                        clear hT y1 HGV
                        go_wp2_with fail
                        refine HST7.out.mono ?_
                        rintro e w8 ⟨rfl, d8, rfl⟩
                        clear y7
                        go_wp2_with fail
                        go_meet
                        exact ⟨gr, G, A, c, rfl, rfl, HP7.out.calls (below_dn _ _)⟩
                · as_aux_lemma =>
                  have HCP : Hid (Calls Tryz.prog 13 #[.pointer (some ⟨gr, 0, none⟩)] W0 fun e w' => ∃ gc, e = .returned (.pointer (some ⟨gc, 0, none⟩)) ∧ gc ≠ gr ∧ w.heap.size ≤ gc ∧ RoomAt w' gc N H ∧ Below W0.heap.size W0 w') := Lib.hid (by
                    refine (rcopy_any HP0.out.room).mono ?_
                    rintro e w' ⟨rfl, h1, h2⟩
                    exact ⟨_, rfl, by have := HP0.out.room.lt; omega, HP0.out.below.size, h1, h2⟩)
                  clear x1
                  go_wp2_with fail
                  refine HCP.out.mono ?_
                  rintro e w6 ⟨gc, rfl, hne, hgc, hrc, hb6⟩
                  have HNE := Lib.hid hne
                  have HGC := Lib.hid hgc
                  have HRC := Lib.hid hrc
                  have HP6 := Lib.hid (HP0.out.off.calls hb6)
                  obtain ⟨t, hls⟩ := least_ex HP6.out.room.ok
                  have HTA : Hid (Calls Tryz.prog 9 #[.pointer (some ⟨gr, 0, none⟩)] w6 fun e w' => ∃ (x y : Int), e = .returned (.tuple #[.int .i64 x, .int .i64 y]) ∧ ∃ G, Off10 w w' B gr B N k H G ls A c ∧ RoomAt w' gc N H ∧ gr < w'.heap.size) := Lib.hid (by
                    refine (rtake_any HP6.out.room hls).mono ?_
                    rintro e w' (⟨_, rfl, hT⟩ | ⟨_, rfl, rfl⟩)
                    · exact ⟨_, _, rfl, _, HP6.out.turned hT, HRC.out.other hT HNE.out, hT.room.lt⟩
                    · exact ⟨_, _, rfl, _, HP6.out, HRC.out, HP6.out.room.lt⟩)
                  clear hne hgc hrc hb6 hls x0 HCP
                  go_wp2_with fail
                  refine HTA.out.mono ?_
                  rintro e w7 ⟨v1, v2, rfl, G, hof, hrc, hlt7⟩
                  have HGI : Hid (∀ (W : World), Below w7.heap.size w7 W → Blk W w7.heap.size 3 #[.int .i64 0, .int .i64 1, .int .i64 2, .int .i64 3] → Calls Tryz.prog 12 #[.pointer (some ⟨gr, 0, none⟩), .slice (some ⟨w7.heap.size, 0, none⟩) 4 4] W fun e w' => ∃ (x : Int), e = .returned (.int .i64 x) ∧ Pl10 w w' B gc B N k H ls A c) := Lib.hid (fun W hW hb => by
                    have hoW := hof.calls hW
                    refine (rgive_any (some ⟨w7.heap.size, 0, none⟩) 4 4 [0, 1, 2, 3] hoW.room rfl (ints_blk4 hb) (fun a ha => by cases ha; show w7.heap.size ≠ gr; omega) (by omega)).mono ?_
                    rintro e w' ⟨rfl, hT⟩
                    exact ⟨_, rfl, ((hoW.turned hT).swap ((hrc.below hW).other hT HNE.out) HGC.out).on⟩)
                  clear hof hrc HTA
                  go_wp2_with fail
                  refine (HGI.out _ ((Below.refl _ _).alloc (Nat.le_refl _) _) (Blk.new _ _ _)).mono ?_
                  rintro e w8 ⟨v3, rfl, hp8⟩
                  have HP8 := Lib.hid hp8
                  clear hp8 hlt7
                  go_wp2_with fail
                  go_meet
                  exact ⟨gc, H, A, c, rfl, rfl, HP8.out⟩
              case rest =>
              as_aux_lemma =>
              obtain ⟨gr, H, A, c, rfl, rfl, hp⟩ := hcut
              have HPC := Lib.hid hp
              have HALL := Lib.hid (rall_any hp.room)
              have HHL : Hid (H.length ≤ N) := Lib.hid hp.room.ok.few
              clear hp HP0 HX HIN0 HWW HLN x0 x1
              go_wp2_with fail
              refine HALL.out.mono ?_
              rintro e w6 ⟨A2, c2, rfl, hrow, hb6⟩
              have HADD : Hid (Calls Tryz.prog 15 #[.pointer (some ⟨B, 0, none⟩), .slice A2 H.length c2] w6 fun e w'' => e = .returned (.tuple #[]) ∧ Pl10 w w'' B gr B N (k + 1) H (ls ++ [⟨A2, c2, H⟩]) A c ∧ BookLeaves w6 w'' ∧ Below B w6 w'') := Lib.hid (HPC.out.add (l := ⟨A2, c2, H⟩) (by have := HK.out; omega) hb6 (by show H.length ≤ 900000; have := HHL.out; omega) hrow HPC.out.bookB)
              have HROW := Lib.hid hrow
              clear hrow hb6 HALL
              go_wp2_with fail
              refine HADD.out.mono ?_
              rintro e w7 ⟨rfl, hp7, hlv, -⟩
              have HP7 := Lib.hid hp7
              have HA2 : Hid (Ints w7 w7.heap.size A2 H) := Lib.hid (row_ints (hlv.row HROW.out (by decide) (by decide)))
              have HA1 : Hid (Ints w7 w7.heap.size A H) := Lib.hid hp7.ints
              clear hp7 hlv HADD HROW HPC
              obtain ⟨ub, hub⟩ : ∃ ub, ub = decide (at_ ∈ H) := ⟨_, rfl⟩
              have HSM : Hid (∀ W, Below w7.heap.size w7 W → Calls Tryz.prog 16 #[.slice A2 H.length c2, .slice A H.length c] W fun e w' => e = .returned (.bool true) ∧ ∃ n, w' = W.drewN n) := Lib.hid (fun W hW => ksame_any A2 A H.length c2 c H W rfl ((HA2.out.below hW).more hW.size) ((HA1.out.below hW).more hW.size) (by have := HHL.out; omega))
              have HFR : Hid (∀ W, Below w7.heap.size w7 W → Calls Tryz.prog 17 #[.pointer (some ⟨gr, 0, none⟩)] W fun e w' => e = .returned (.int .i64 ((N : Int) - (H.length : Int))) ∧ w' = W) := Lib.hid (fun W hW => rfree_any (HP7.out.calls hW).room)
              have HSZ : Hid (∀ W, Below w7.heap.size w7 W → Calls Tryz.prog 18 #[.pointer (some ⟨gr, 0, none⟩)] W fun e w' => e = .returned (.int .i64 (N : Int)) ∧ w' = W) := Lib.hid (fun W hW => size_any (HP7.out.calls hW).room)
              have HUS : Hid (∀ W, Below w7.heap.size w7 W → Calls Tryz.prog 19 #[.pointer (some ⟨gr, 0, none⟩), .int .i64 at_] W fun e w' => e = .returned (.bool ub) ∧ ∃ d, w' = W.drewN d) := Lib.hid (fun W hW => by rw [hub]; exact rused_any at_ (HP7.out.calls hW).room)
              have HAM : Hid (∀ W, Below w7.heap.size w7 W → Calls Tryz.prog 10 #[.slice A H.length c, .int .i64 at_] W fun e w' => e = .returned (.bool ub) ∧ w' = W) := Lib.hid (fun W hW => by rw [hub]; exact ramong_any at_ A c H.length H W rfl ((HA1.out.below hW).more hW.size) (by have := HHL.out; omega))
              have HWR : Hid (IntKind.i64.wrap ((N : Int) - (H.length : Int)) = (N : Int) - (H.length : Int)) := Lib.hid (by have := HHL.out; exact IntWalk.i64_in _ (by omega))
              clear hub
              go_wp2_with fail
              refine (HSM.out _ (Below.refl _ _)).mono ?_
              rintro e w8 ⟨rfl, d8, rfl⟩
              have HB8 : Hid (Below w7.heap.size w7 (w7.drewN d8)) := Lib.hid (below_dn _ _)
              obtain ⟨w8, hw8⟩ : ∃ w8, w8 = w7.drewN d8 := ⟨_, rfl⟩
              rw [← hw8] at HB8 ⊢
              clear hw8
              have ew := HWR.out
              go_wp2_with fail
              refine (HFR.out _ HB8.out).mono ?_
              rintro e w9 ⟨rfl, rfl⟩
              go_wp2_with fail
              refine (HSZ.out _ HB8.out).mono ?_
              rintro e w10 ⟨rfl, rfl⟩
              go_wp2_with fail
              refine (HUS.out _ HB8.out).mono ?_
              rintro e wq ⟨rfl, d9, rfl⟩
              have HB9 : Hid (Below w7.heap.size w7 (w10.drewN d9)) := Lib.hid (HB8.out.trans (below_dn _ _))
              obtain ⟨w9, hw9⟩ : ∃ w9, w9 = w10.drewN d9 := ⟨_, rfl⟩
              rw [← hw9] at HB9 ⊢
              clear hw9
              go_wp2_with fail
              refine (HAM.out _ HB9.out).mono ?_
              rintro e w11 ⟨rfl, rfl⟩
              have HP8 := Lib.hid (HP7.out.calls HB9.out)
              clear HSM HFR HSZ HUS HAM HP7 HA2 HA1 HB8 ew
              cases ub
              all_goals
                go_wp2_with fail
                go_roundw
                case rel => exact ⟨a + 1, gr, k + 1, H, _, A, c, by omega, by have := HK.out; omega, rfl, rfl, by go_num, HP8.out⟩
                case measure => simp [intOf]; omega
            · as_aux_lemma =>
              obtain rfl : a = m2 := by omega
              obtain ⟨T, hT⟩ : ∃ T, T = bs (roomT N H) := ⟨_, rfl⟩
              have HHL : Hid (H.length ≤ N) := Lib.hid HP.out.room.ok.few
              have HLY : Hid (Calls Tryz.prog 20 #[.pointer (some ⟨gr, 0, none⟩)] wr fun e w' => e = .returned (.tuple #[.string T, .int .i64 0]) ∧ Below wr.heap.size wr w') := Lib.hid (by rw [hT]; exact rlay_room HP.out.room hN1)
              have HRD : Hid (∀ W, Calls Tryz.prog 21 #[.string T] W fun e w' => ∃ g, e = .returned (.tuple #[.pointer (some ⟨g, 0, none⟩), .int .i64 0]) ∧ RoomAt w' g N H ∧ Below W.heap.size W w') := Lib.hid (fun W => by
                refine (rread_room T W).mono ?_
                rintro e w' ⟨hb, h⟩
                rw [hT, bs_list, readR_laid HP.out.room.ok hN1 hN2] at h
                rcases h with ⟨_, _, g, rfl, hr, _⟩ | ⟨h, _⟩
                · exact ⟨g, rfl, hr, hb⟩
                · exact absurd rfl h)
              have HLR0 : Hid (∀ W, Ints W W.heap.size A H → Calls Tryz.prog 22 #[.int .i64 (N : Int), .slice A H.length c] W fun e w' => e = .returned (.string T) ∧ Below W.heap.size W w') := Lib.hid (fun W hW => by rw [hT]; exact rlayroom_any N A H.length c H W hN2 HP.out.room.ok rfl hW)
              clear hT hlt
              go_wp2_with fail
              refine HLY.out.mono ?_
              rintro e w6 ⟨rfl, hb6⟩
              have HB6 := Lib.hid hb6
              clear hb6
              go_wp2_with fail
              refine (HRD.out _).mono ?_
              rintro e w7 ⟨g7, rfl, hr7, hb7⟩
              have HP7 := Lib.hid (HP.out.calls (HB6.out.trans (hb7.mono HB6.out.size)))
              have HR7 := Lib.hid hr7
              have HLR : Hid (∀ W, Below w7.heap.size w7 W → Calls Tryz.prog 22 #[.int .i64 (N : Int), .slice A H.length c] W fun e w' => e = .returned (.string T) ∧ Below W.heap.size W w') := Lib.hid (fun W hW => HLR0.out W (row_ints (HP7.out.calls hW).row))
              have HSZ : Hid (∀ W, Below w7.heap.size w7 W → Calls Tryz.prog 18 #[.pointer (some ⟨g7, 0, none⟩)] W fun e w' => e = .returned (.int .i64 (N : Int)) ∧ w' = W) := Lib.hid (fun W hW => size_any (HR7.out.below hW))
              have HAL : Hid (∀ W, Below w7.heap.size w7 W → Calls Tryz.prog 14 #[.pointer (some ⟨g7, 0, none⟩)] W fun e w' => ∃ A' c', e = .returned (.slice A' H.length c') ∧ w'.ownsRow w7.heap.size 3 1 (.slice A' H.length c') H.length (H.map (Value.int .i64)) ∧ Below W.heap.size W w') := Lib.hid (fun W hW => by
                refine (rall_any (HR7.out.below hW)).mono ?_
                rintro e w' ⟨A', c', rfl, h1, h2⟩
                exact ⟨A', c', rfl, row_lower h1 hW.size, h2⟩)
              have HSM : Hid (∀ W A' c', Below w7.heap.size w7 W → W.ownsRow w7.heap.size 3 1 (.slice A' H.length c') H.length (H.map (Value.int .i64)) → Calls Tryz.prog 16 #[.slice A' H.length c', .slice A H.length c] W fun e w' => e = .returned (.bool true) ∧ ∃ n, w' = W.drewN n) := Lib.hid (fun W A' c' hW hr => ksame_any A' A H.length c' c H W rfl (row_ints hr) (row_ints (HP7.out.calls hW).row) (by have := HHL.out; omega))
              clear hr7 hb7 HLY HRD HLR0 HB6 HP
              go_wp2_with fail
              refine (HLR.out _ (Below.refl _ _)).mono ?_
              rintro e wa ⟨rfl, hba⟩
              have HBA := Lib.hid hba
              clear hba
              go_wp2_with fail
              refine (HSZ.out _ HBA.out).mono ?_
              rintro e wb ⟨rfl, rfl⟩
              go_wp2_with fail
              refine (HAL.out _ HBA.out).mono ?_
              rintro e wb ⟨A', c', rfl, hrb, hbb⟩
              have HBB := Lib.hid (HBA.out.trans (hbb.mono HBA.out.size))
              have HSMB := Lib.hid (HSM.out _ _ _ HBB.out hrb)
              clear hrb hbb
              go_wp2_with fail
              refine HSMB.out.mono ?_
              rintro e wd ⟨rfl, dd, rfl⟩
              obtain ⟨wz, hwz⟩ : ∃ wz, wz = wb.drewN dd := ⟨_, rfl⟩
              have HP8 : Hid (Pl10 w wz B gr B N k H ls A c) := Lib.hid (by rw [hwz]; exact (HP7.out.calls HBB.out).calls (below_dn _ _))
              rw [← hwz]
              clear hwz HSM HAL HSZ HLR HP7 HR7 HSMB HBB HBA
              go_upto_if 304 with fail
              go_cut [4] from 304 to 313 (fun s wx => ∃ X, s = .string X ∧ Below wz.heap.size wz wx)
              case first =>
                cases own with
                | false =>
                  go_wp2_with fail
                  go_meet
                  exact ⟨b, rfl, Below.refl _ _⟩
                | true =>
                  obtain ⟨d, hd⟩ : ∃ d : Nat, d = min b.size 252 := ⟨_, rfl⟩
                  have hdI : min (b.size : Int) 252 = (d : Int) := by omega
                  have hd2 : (d : Int) ≤ (b.size : Int) := by omega
                  have HSEAL : Hid (∃ S k, Calls Tryz.prog 23 #[.int .i64 256, .string (b.extract 0 d)] wz fun e w' => e = .returned (.tuple #[.string S, .int .i64 k]) ∧ Below wz.heap.size wz w') := Lib.hid (by
                    obtain ⟨S, k, e⟩ : ∃ S k, sealV 256 (b.extract 0 d).data.toList = .tuple #[.string S, .int .i64 k] := ⟨_, _, rfl⟩
                    refine ⟨S, k, ?_⟩
                    rw [← e]
                    exact ref_seal 256 (b.extract 0 d) wz (by rw [ByteArray.size_extract]; have := HA3.out; omega))
                  obtain ⟨S, k9, hseal⟩ := HSEAL.out
                  have HSEAL := Lib.hid hseal
                  clear hseal hd
                  go_wp2_with fail
                  refine HSEAL.out.mono ?_
                  rintro e w9 ⟨rfl, hb9⟩
                  go_wp2_with fail
                  go_meet
                  exact ⟨S, rfl, hb9⟩
              case rest =>
              obtain ⟨X, rfl, hbc⟩ := hcut
              have HPD := Lib.hid (HP8.out.calls hbc)
              obtain ⟨rn, rl, re, hR⟩ : ∃ rn rl re, readR X.data.toList = (rn, rl, re) := by
                rcases readR X.data.toList with ⟨a1, a2, a3⟩
                exact ⟨a1, a2, a3, rfl⟩
              have HRD : Hid (∀ W, Calls Tryz.prog 21 #[.string X] W fun e w' => Below W.heap.size W w' ∧ ReadAt W.heap.size (rn, rl, re) e w') := Lib.hid (fun W => by rw [← hR]; exact rread_room X W)
              have HRR : Hid (∀ W, Calls Tryz.prog 24 #[.string X] W fun e w' => ∃ A c, e = .returned (.tuple #[.int .i64 (rn : Int), .slice A rl.length c, .int .i64 re]) ∧ w'.ownsRow W.heap.size 3 1 (.slice A rl.length c) rl.length (rl.map (Value.int .i64)) ∧ Below W.heap.size W w') := Lib.hid (fun W => by
                have := rreadroom_any X W
                rw [hR] at this
                exact this)
              clear hbc hR HP8
              go_wp2_with fail
              refine (HRD.out _).mono ?_
              rintro e w9 ⟨hb9, hcase⟩
              have HB9 := Lib.hid hb9
              have HCASE : Hid (∃ p, e = .returned (.tuple #[.pointer p, .int .i64 re]) ∧ ((re = 0 ∧ ∃ g, p = some ⟨g, 0, none⟩ ∧ RoomAt w9 g rn rl) ∨ (re ≠ 0 ∧ p = none))) := Lib.hid (by
                rcases hcase with ⟨h0, _, g, rfl, hr, _⟩ | ⟨h0, rfl⟩
                · simp only at h0
                  subst h0
                  exact ⟨_, rfl, .inl ⟨rfl, g, rfl, hr⟩⟩
                · exact ⟨_, rfl, .inr ⟨h0, rfl⟩⟩)
              obtain ⟨p, rfl, hcs⟩ := HCASE.out
              have HCS := Lib.hid hcs
              clear hb9 hcase hcs HCASE
              go_wp2_with fail
              refine (HRR.out _).mono ?_
              rintro e w10 ⟨A9, c9, rfl, hr9, hb10⟩
              have HR9 := Lib.hid hr9
              have HB10 := Lib.hid hb10
              have HP9 := Lib.hid (HPD.out.calls (HB9.out.trans (hb10.mono HB9.out.size)))
              clear hr9 hb10 HRD HRR HPD
              go_upto_region 64 with fail
              go_cut [351] from 325 to 350 (fun v wx => v = .bool false ∧ Below w10.heap.size w10 wx)
              case first =>
                rcases HCS.out with ⟨rfl, g9, rfl, hg9⟩ | ⟨hre, rfl⟩
                · as_aux_lemma =>
                  have HQ : Hid (RoomAt w10 g9 rn rl) := Lib.hid (hg9.below HB10.out)
                  have HQL : Hid (rl.length ≤ 1900) := Lib.hid (Nat.le_trans hg9.ok.few hg9.size)
                  have HSZ : Hid (∀ W, Below w10.heap.size w10 W → Calls Tryz.prog 18 #[.pointer (some ⟨g9, 0, none⟩)] W fun e w' => e = .returned (.int .i64 (rn : Int)) ∧ w' = W) := Lib.hid (fun W hW => size_any (HQ.out.below hW))
                  have HAL : Hid (∀ W, Below w10.heap.size w10 W → Calls Tryz.prog 14 #[.pointer (some ⟨g9, 0, none⟩)] W fun e w' => ∃ A' c', e = .returned (.slice A' rl.length c') ∧ w'.ownsRow w10.heap.size 3 1 (.slice A' rl.length c') rl.length (rl.map (Value.int .i64)) ∧ Below W.heap.size W w') := Lib.hid (fun W hW => by
                    refine (rall_any (HQ.out.below hW)).mono ?_
                    rintro e w' ⟨A', c', rfl, h1, h2⟩
                    exact ⟨A', c', rfl, row_lower h1 hW.size, h2⟩)
                  have HSM : Hid (∀ W A' c', Below w10.heap.size w10 W → W.ownsRow w10.heap.size 3 1 (.slice A' rl.length c') rl.length (rl.map (Value.int .i64)) → Calls Tryz.prog 16 #[.slice A' rl.length c', .slice A9 rl.length c9] W fun e w' => e = .returned (.bool true) ∧ ∃ n, w' = W.drewN n) := Lib.hid (fun W A' c' hW hr => ksame_any A' A9 rl.length c' c9 rl W rfl (row_ints hr) (row_ints (row_below HR9.out hW)) (by have := HQL.out; omega))
                  clear hg9
                  go_wp2_with fail
                  refine (HSZ.out _ (Below.refl _ _)).mono ?_
                  rintro e wa ⟨rfl, rfl⟩
                  go_wp2_with fail
                  refine (HAL.out _ (Below.refl _ _)).mono ?_
                  rintro e wb ⟨A', c', rfl, hrb, hbb⟩
                  have HBB := Lib.hid hbb
                  have HSMB := Lib.hid (HSM.out _ _ _ hbb hrb)
                  clear hrb hbb
                  go_wp2_with fail
                  refine HSMB.out.mono ?_
                  rintro e wd ⟨rfl, dd, rfl⟩
                  go_wp2_with fail
                  go_meet
                  exact ⟨rfl, HBB.out.trans (below_dn _ _)⟩
                · as_aux_lemma =>
                  have HRE := Lib.hid hre
                  clear hre
                  have hz : (re == 0) = false := by simp [HRE.out]
                  have hz2 : ¬ re = 0 := HRE.out
                  go_wp2_with fail
                  go_meet
                  exact ⟨rfl, Below.refl _ _⟩
              case rest =>
              as_aux_lemma =>
              obtain ⟨rfl, hbc⟩ := hcut
              have HPE := Lib.hid (HP9.out.calls hbc)
              clear hbc HP9 HCS HR9 HB10 HB9
              go_wp2_with fail
              refine (rtake_none _).mono ?_
              rintro e w11 ⟨rfl, rfl⟩
              go_wp2_with fail
              refine (rlay_none _).mono ?_
              rintro e w12 ⟨rfl, rfl⟩
              obtain ⟨W9, hW9⟩ : ∃ W9, W9 = w12 := ⟨_, rfl⟩
              subst hW9
              have HBK := Lib.hid HPE.out.book
              have HBB := Lib.hid HPE.out.bookB
              have HGI : Hid (∀ W b, Blk W b 3 #[.int .i64 1] → Calls Tryz.prog 12 #[.pointer none, .slice (some ⟨b, 0, none⟩) 1 1] W fun e w' => e = .returned (.int .i64 0) ∧ ∃ d, w' = W.drewN d) := Lib.hid (fun W b hb => rgive_none (some ⟨b, 0, none⟩) 1 1 [1] W rfl (ints_blk1 hb) (by omega))
              have HAP : Hid (∀ W, BookAt B B k ls W → Calls Tryz.prog 25 #[.pointer (some ⟨B, 0, none⟩)] W fun e w' => e = .returned (.bool true) ∧ Below B W w') := Lib.hid (fun W h => h.apart (by have := HK.out; omega))
              have HPE2 : Hid (∀ W, Below W9.heap.size W9 W → BookAt B B k ls W) := Lib.hid (fun W hW => HBK.out.below hW)
              have HB0 : Hid (Below W9.heap.size W9 (W9.alloc (.cells #[.int .i64 1] 3))) := Lib.hid ((Below.refl _ _).alloc (Nat.le_refl _) _)
              go_wp2_with fail
              refine (HGI.out _ _ (Blk.new _ _ _)).mono ?_
              rintro e wa ⟨rfl, da, rfl⟩
              obtain ⟨Wa, hWa⟩ : ∃ Wa, Wa = (W9.alloc (.cells #[.int .i64 1] 3)).drewN da := ⟨_, rfl⟩
              have HBa : Hid (Below W9.heap.size W9 Wa) := Lib.hid (by rw [hWa]; exact HB0.out.trans (below_dn _ _))
              rw [← hWa]
              clear hWa
              go_wp2_with fail
              refine (rfree_none _).mono ?_
              rintro e wb ⟨rfl, rfl⟩
              go_wp2_with fail
              refine (size_none _).mono ?_
              rintro e wd ⟨rfl, rfl⟩
              go_wp2_with fail
              refine (rall_none _).mono ?_
              rintro e wf ⟨rfl, rfl⟩
              go_wp2_with fail
              refine (rused_none at_ _).mono ?_
              rintro e wg ⟨rfl, dg, rfl⟩
              obtain ⟨Wg, hWg⟩ : ∃ Wg, Wg = wf.drewN dg := ⟨_, rfl⟩
              have HBg : Hid (Below W9.heap.size W9 Wg) := Lib.hid (by rw [hWg]; exact HBa.out.trans (below_dn _ _))
              rw [← hWg]
              clear hWg
              go_wp2_with fail
              refine (rcopy_none _).mono ?_
              rintro e wh ⟨rfl, rfl⟩
              go_wp2_with fail
              refine (HAP.out _ (HPE2.out _ HBg.out)).mono ?_
              rintro e wi ⟨rfl, hbi⟩
              have HFIN := Lib.hid ((HPE.out.below.trans (HBg.out.mono HPE.out.below.size)).trans (hbi.mono HPE.out.base))
              clear hbi
              go_wp2_with fail
              go_ret
              exact ⟨rfl, HFIN.out⟩
  · as_aux_lemma =>
    have HST0 := Lib.hid (HST.out _ (Below.refl _ _))
    have HBW : Hid (Below w.heap.size w w2) := Lib.hid (HB1.out.trans (HB2.out.mono HB1.out.size))
    have HNW := Lib.hid (rnew_none n (.slice (some ⟨g2, 0, none⟩) m1 cap2) w2 hn)
    have HNN := Lib.hid hn
    clear hn
    go_upto_region 5 with fail
    refine HNW.out.mono ?_
    rintro e w3 ⟨rfl, rfl⟩
    go_upto_region 5 with fail
    go_cut [16] from 70 to 75 (fun v wx => v = .bool false ∧ wx = w3)
    case first =>
      by_cases n1 : 1 ≤ n
      · have n2 : ¬ n ≤ 1900 := fun h => HNN.out ⟨n1, h⟩
        go_wp2_with fail
        go_meet
        exact ⟨rfl, rfl⟩
      · go_wp2_with fail
        go_meet
        exact ⟨rfl, rfl⟩
    case rest =>
    obtain ⟨rfl, rfl⟩ := hcut
    go_wp2_with fail
    go_loopw [16, 17, 18] (fun gv hv i wr => gv = .bool false ∧ hv = .slice none 0 0 ∧ i = .int .i64 0 ∧ wr = wc) (fun _ _ _ _ => 0)
    case atStart => exact ⟨rfl, rfl, rfl, rfl⟩
    case round =>
      obtain ⟨rfl, rfl, rfl, rfl⟩ := hrel
      by_cases hm0 : 0 < m1
      · have hm0I : (0 : Int) < (m1 : Int) := by omega
        go_wp2_with fail
        refine HST0.out.mono ?_
        rintro e w4 ⟨rfl, d, rfl⟩
        go_wp2_with fail
        go_ret
        exact ⟨rfl, HBW.out.trans (below_dn _ _)⟩
      · have hm0I : ¬ (0 : Int) < (m1 : Int) := by omega
        go_wp2_with fail
        refine HST0.out.mono ?_
        rintro e w4 ⟨rfl, d, rfl⟩
        go_wp2_with fail
        go_ret
        exact ⟨rfl, HBW.out.trans (below_dn _ _)⟩
end Go.Proofs.YtbaanoomilohhaaGreat
