/-
  DiskArmed, walked.
-/
import Derived.Test.YtokddfbjjghpkaaDiskArmedPure
namespace Go.Proofs.Ytokddfbjjghpkaa
open Go.RowKit

set_option maxRecDepth 100000 in
set_option maxHeartbeats 8000000 in
theorem darmed_in (n W : Nat) (q p : Int) (hq : q = (n : Int)) (hp : p = (W : Int)) (A : Option Addr) (m c : Nat) (l : List Int) (w : World) (hn : n ≤ 60) (hW : W ≤ 60) (hm : m ≤ 60) (hl : IntsIn w A m c l) :
    Calls Try.prog 6 #[.int .i64 q, .int .i64 p, .slice A m c] w fun e w' => e = .returned (.bool true) ∧ Below w.heap.size w w' := by
  obtain ⟨z, hz⟩ : ∃ z, z = zeroB 256 := ⟨_, rfl⟩
  obtain ⟨X, hX⟩ : ∃ X, X = fillB ⟨#[120]⟩ := ⟨_, rfl⟩
  obtain ⟨Y, hY⟩ : ∃ Y, Y = fillB ⟨#[121]⟩ := ⟨_, rfl⟩
  obtain ⟨x1, x2⟩ := fill_ne_zero
  rw [← hX, ← hz] at x1 x2
  have HXZ := Lib.hid (And.intro x1 x2)
  have HN := Lib.hid (fun w => dnew_yes 140 140 w rfl (by omega) (by omega))
  rw [← hz] at HN
  have HZS : Hid (z.size = 256) := Lib.hid (by rw [hz]; exact zeroB_size 256)
  have HXS : Hid (X.size = 256) := Lib.hid (by rw [hX]; exact fillB_size _)
  have HYS : Hid (Y.size = 256) := Lib.hid (by rw [hY]; exact fillB_size _)
  have HX : Hid (∀ w, Calls Try.prog 16 #[.string ⟨#[120]⟩] w fun e w' => e = .returned (.string X) ∧ Below w.heap.size w w') := Lib.hid (fun w => by rw [hX]; exact fill_any _ w (by decide))
  have HY : Hid (∀ w, Calls Try.prog 16 #[.string ⟨#[121]⟩] w fun e w' => e = .returned (.string Y) ∧ Below w.heap.size w w') := Lib.hid (fun w => by rw [hY]; exact fill_any _ w (by decide))
  have HL := Lib.hid hl
  have HQ := Lib.hid hq
  have HP := Lib.hid hp
  have HNN := Lib.hid hn
  have HWW := Lib.hid hW
  have q0 : ¬ q < 0 := by omega
  have q1 : ¬ 60 < q := by omega
  have p0 : ¬ p < 0 := by omega
  have p1 : ¬ 60 < p := by omega
  have hmI : ¬ (60 : Int) < (m : Int) := by omega
  clear hz hX hY x1 x2 hl hq hp hn hW
  go_enter Try.func6, Try.ntmps6
  go_wp2_with fail
  refine (alive7_any _).mono ?_
  rintro e w1 ⟨rfl, hb1⟩
  go_wp2_with fail
  refine (HN.out w1).mono ?_
  rintro e w2 ⟨g, O, rfl, hD, hO, hb⟩
  have hO' : ∀ b ∈ O, w.heap.size ≤ b := fun b hb => Nat.le_trans hb1.size (hO b hb)
  have hb2 : Below w.heap.size w w2 := hb1.trans (hb.mono hb1.size)
  have HD := Lib.hid hD
  have HO := Lib.hid hO'
  have HB := Lib.hid hb2
  clear hD hO hO' hb hb1 hb2
  go_wp2_with fail
  refine (darm_any q A m c l HD.out HL.out.len (HL.out.lie.below HB.out) HL.out.nil_ (by omega)).mono ?_
  rintro e w3 ⟨rfl, hT⟩
  rw [ar_start z X l n q HQ.out] at hT
  obtain ⟨O3, t1, t2, t3⟩ := hT
  have HB3 := Lib.hid (HB.out.trans (t3.below HO.out HB.out.size))
  have HO3 : Hid (∀ b ∈ O3, w.heap.size ≤ b) := Lib.hid (fun b hb => by
    rcases t2 b hb with h | h
    · exact HO.out b h
    · exact Nat.le_trans HB.out.size h)
  have HD3 := Lib.hid t1
  clear t1 t2 t3 HD HO HB
  go_wp2_with fail
  go_loopw [9] (fun i wr => ∃ j : Nat, j ≤ W ∧ i = .int .i64 j ∧ Below w.heap.size w wr ∧ ∃ O, DiskAt wr O g (arS z X l n j) ∧ ∀ b ∈ O, w.heap.size ≤ b) (fun i _ => W - (intOf i).toNat)
  case atStart => exact ⟨0, Nat.zero_le _, rfl, HB3.out, O3, HD3.out, HO3.out⟩
  case round =>
    obtain ⟨j, hj, rfl, hbr, O1, hD1, hO1⟩ := hrel
    have HBR := Lib.hid hbr
    have HD1 := Lib.hid hD1
    have HO1 := Lib.hid hO1
    clear hbr hD1 hO1 HD3 HB3 HO3
    by_cases hlt : j < W
    · have hjp : (j : Int) < p := by have := HP.out; omega
      obtain ⟨e1, e2⟩ := ar_write (z := z) l (n := n) HXS.out (show j < 140 by have := HWW.out; omega)
      have hsm := ar_small z X l n j HNN.out (by have := HWW.out; omega)
      have HE := Lib.hid (And.intro e1 e2)
      have HSM := Lib.hid hsm
      have HJ : Hid (j ≤ 140) := Lib.hid (by have := HWW.out; omega)
      clear e1 e2 hsm
      go_wp2_with fail
      refine (HX.out _).mono ?_
      rintro e w4 ⟨rfl, hb4⟩
      have HB4 := Lib.hid (HBR.out.trans (hb4.mono HBR.out.size))
      have HD4 := Lib.hid (HD1.out.below hb4)
      clear hb4
      go_wp2_with fail
      obtain ⟨W4, hW4⟩ : ∃ W4, W4 = w4.alloc (.cells #[.int .i64 (j : Int), .string X] 45) := ⟨_, rfl⟩
      have bW : Blk W4 w4.heap.size 45 #[.int .i64 (j : Int), .string X] := by rw [hW4]; exact Blk.new _ _ _
      have hWb : Below w4.heap.size w4 W4 := by rw [hW4]; exact (Below.refl _ _).alloc (Nat.le_refl _) _
      rw [← hW4]
      clear hW4
      have hnn : w4.heap.size ∉ O1 := fun hm => absurd (HD4.out.lt hm) (Nat.lt_irrefl _)
      refine (dwrite_any (some ⟨w4.heap.size, 0, none⟩) 1 1 [((j : Int), X)] (HD4.out.below hWb) (ar_ok HJ.out) rfl (wrts_one bW hnn) HSM.out.1 HSM.out.2.1 HSM.out.2.2).mono ?_
      rintro e w5 ⟨rfl, hT⟩
      rw [HE.out.1]
      rw [HE.out.2] at hT
      obtain ⟨O4, t1, t2, t3⟩ := hT
      have hsz := Nat.le_trans HB4.out.size hWb.size
      have HB5 := Lib.hid ((HB4.out.trans (hWb.mono HB4.out.size)).trans (t3.below HO1.out hsz))
      have HO4 : Hid (∀ b ∈ O4, w.heap.size ≤ b) := Lib.hid (fun b hb => by
        rcases t2 b hb with h | h
        · exact HO1.out b h
        · exact Nat.le_trans hsz h)
      have HD5 := Lib.hid t1
      clear t1 t2 t3 hsz bW hWb hnn HB4 HD4 HD1 HO1 HBR
      by_cases hjn : j < n
      · have hjq : (j : Int) < q := by have := HQ.out; omega
        rw [if_pos hjn]
        clear hjn
        go_wp2_with fail
        go_roundw
        case rel => exact ⟨j + 1, hlt, by go_num, HB5.out, O4, HD5.out, HO4.out⟩
        case measure => simp [intOf]; omega
      · have hjq : ¬ (j : Int) < q := by have := HQ.out; omega
        have hjq2 : q ≤ (j : Int) := by omega
        rw [if_neg hjn]
        clear hjn
        go_wp2_with fail
        go_roundw
        case rel => exact ⟨j + 1, hlt, by go_num, HB5.out, O4, HD5.out, HO4.out⟩
        case measure => simp [intOf]; omega
    · obtain rfl : j = W := by omega
      have hjp : ¬ (j : Int) < p := by have := HP.out; omega
      have HSM := Lib.hid (ar_small z X l n j HNN.out HWW.out).1
      have HOKF : Hid ((arS z X l n j).Ok) := Lib.hid (ar_ok (by have := HWW.out; omega))
      by_cases hWn : j < n
      · obtain ⟨f1, f2, f3⟩ := ar_flush_yes (z := z) (X := X) l hWn
        have HF := Lib.hid (And.intro f1 (And.intro f2 f3))
        have hpq : p < q := by have := HP.out; have := HQ.out; omega
        clear f1 f2 f3 hWn hlt hj
        go_wp2_with fail
        refine (dflush_any HD1.out HOKF.out HSM.out).mono ?_
        rintro e w3 ⟨rfl, hT⟩
        rw [HF.out.1]
        obtain ⟨O3, t1, t2, t3⟩ := hT
        have HB3 := Lib.hid (HBR.out.trans (t3.below HO1.out HBR.out.size))
        have HD3 := Lib.hid t1
        clear t1 t2 t3 HD1 HO1 HBR
        go_wp2_with fail
        refine (don_any HD3.out).mono ?_
        rintro e w4 ⟨rfl, rfl⟩
        rw [HF.out.2.1]
        go_wp2_with fail
        refine (ddirty_any HD3.out).mono ?_
        rintro e w4 ⟨rfl, rfl⟩
        rw [HF.out.2.2]
        go_wp2_with fail
        go_ret
        exact ⟨rfl, HB3.out⟩
      · obtain ⟨f1, f2⟩ := ar_flush_no (z := z) (X := X) l (show n ≤ j by omega)
        have HF := Lib.hid (And.intro f1 f2)
        have hpq : ¬ p < q := by have := HP.out; have := HQ.out; omega
        obtain ⟨D, hD⟩ : ∃ D, D = min j (n + 1) := ⟨_, rfl⟩
        rw [← hD] at HF
        have HDM : Hid (D = min j (n + 1)) := Lib.hid hD
        clear f1 f2 hD
        go_wp2_with fail
        refine (dflush_any HD1.out HOKF.out HSM.out).mono ?_
        rintro e w3 ⟨rfl, hT⟩
        rw [HF.out.1]
        rw [HF.out.2] at hT
        obtain ⟨O3, t1, t2, t3⟩ := hT
        have HB3 := Lib.hid (HBR.out.trans (t3.below HO1.out HBR.out.size))
        have HO3 : Hid (∀ b ∈ O3, w.heap.size ≤ b) := Lib.hid (fun b hb => by
          rcases t2 b hb with h | h
          · exact HO1.out b h
          · exact Nat.le_trans HBR.out.size h)
        have HD3 := Lib.hid t1
        clear t1 t2 t3 HD1 HO1 HBR HF
        go_wp2_with fail
        refine (don_any HD3.out).mono ?_
        rintro e w4 ⟨rfl, rfl⟩
        rw [show (offD z X l D).on = false from rfl]
        go_wp2_with fail
        refine (ddirty_any HD3.out).mono ?_
        rintro e w4 ⟨rfl, rfl⟩
        rw [show (offD z X l D).dirty.length = 0 from rfl]
        go_wp2_with fail
        refine (HY.out _).mono ?_
        rintro e w4 ⟨rfl, hb4⟩
        have HB4 := Lib.hid (HB3.out.trans (hb4.mono HB3.out.size))
        have HD4 := Lib.hid (HD3.out.below hb4)
        clear hb4 HD3 HB3
        go_wp2_with fail
        obtain ⟨W4, hW4⟩ : ∃ W4, W4 = w4.alloc (.cells #[.int .i64 0, .string Y] 45) := ⟨_, rfl⟩
        have bW : Blk W4 w4.heap.size 45 #[.int .i64 0, .string Y] := by rw [hW4]; exact Blk.new _ _ _
        have hWb : Below w4.heap.size w4 W4 := by rw [hW4]; exact (Below.refl _ _).alloc (Nat.le_refl _) _
        rw [← hW4]
        clear hW4
        have hnn : w4.heap.size ∉ O3 := fun hm => absurd (HD4.out.lt hm) (Nat.lt_irrefl _)
        refine (dwrite_any (some ⟨w4.heap.size, 0, none⟩) 1 1 [(0, Y)] (HD4.out.below hWb) (off_ok _ _ _ _) rfl (wrts_one bW hnn) (show (0 : Nat) ≤ 9223372036854775807 by decide) (show D + 1 < 1000000000000 by have := HDM.out; have := HWW.out; omega) (show (0 : Nat) + 1 < 1000000000000 by decide)).mono ?_
        rintro e w5 ⟨rfl, hT⟩
        rw [show (offD z X l D).errW [(0, Y)] = 14 from rfl]
        have hT' : Turns O3 g (offD z X l D) W4 w5 := hT
        obtain ⟨O5, t1, t2, t3⟩ := hT'
        have hsz := Nat.le_trans HB4.out.size hWb.size
        have HB5 := Lib.hid ((HB4.out.trans (hWb.mono HB4.out.size)).trans (t3.below HO3.out hsz))
        have HO5 : Hid (∀ b ∈ O5, w.heap.size ≤ b) := Lib.hid (fun b hb => by
          rcases t2 b hb with h | h
          · exact HO3.out b h
          · exact Nat.le_trans hsz h)
        have HD5 := Lib.hid t1
        clear hT t1 t2 t3 hsz bW hWb hnn HB4 HD4 HO3
        go_wp2_with fail
        refine (drestore_any HD5.out).mono ?_
        rintro e w6 ⟨rfl, hT⟩
        obtain ⟨O6, t1, t2, t3⟩ := hT
        have HB6 := Lib.hid (HB5.out.trans (t3.below HO5.out HB5.out.size))
        have HO6 : Hid (∀ b ∈ O6, w.heap.size ≤ b) := Lib.hid (fun b hb => by
          rcases t2 b hb with h | h
          · exact HO5.out b h
          · exact Nat.le_trans HB5.out.size h)
        have HD6 := Lib.hid t1
        clear t1 t2 t3 HD5 HB5 HO5
        have HNJ : Hid (n ≤ j) := Lib.hid (by omega)
        clear hlt hj hWn
        go_wp2_with fail
        go_loopw [12] (fun i wr => ∃ k : Nat, k ≤ j ∧ i = .int .i64 k ∧ Below w.heap.size w wr ∧ ∃ O, DiskAt wr O g ((offD z X l D).restore) ∧ ∀ b ∈ O, w.heap.size ≤ b) (fun i _ => j - (intOf i).toNat)
        case atStart => exact ⟨0, Nat.zero_le _, rfl, HB6.out, O6, HD6.out, HO6.out⟩
        case round =>
          obtain ⟨k, hk, rfl, hbr, O7, hD7, hO7⟩ := hrel
          have HO7 := Lib.hid hO7
          have HBR := Lib.hid hbr
          have HDR := Lib.hid hD7
          clear hbr hD7 hO7 HD6 HB6 HO6
          by_cases hlt : k < j
          · have hkp : (k : Int) < p := by have := HP.out; omega
            have HRD := Lib.hid (dread_any (k : Int) HDR.out (off_small z X l D HZS.out HXS.out))
            obtain ⟨r1, r2⟩ := off_read z X l D (show k < 140 by have := HWW.out; omega)
            rw [r1, r2] at HRD
            clear r1 r2
            by_cases hkm : k < m
            · have hml : k < l.length := by rw [HL.out.len]; exact hkm
              obtain ⟨b2, off2, rfl, hbB, hcA⟩ := HL.out.lie (by omega)
              obtain ⟨y, hy⟩ : ∃ y, y = l[k] := ⟨_, rfl⟩
              have hyk : l[k]? = some y := by rw [hy]; exact List.getElem?_eq_getElem hml
              have hyD : l.getD k 0 = y := by rw [List.getD_eq_getElem?_getD, hyk]; rfl
              have HA0 : Hid (∀ W, Below w.heap.size w W → W.cell? ⟨b2, off2 + k, none⟩ = some (.int .i64 y)) := Lib.hid (fun W hW => (hW.cell (p := ⟨b2, off2 + k, none⟩) hbB).trans (hcA k y hyk))
              rw [hyD] at HRD
              clear hy hyk hyD hcA
              by_cases hodd : oddI y = true
              · have ht := odd_and hodd
                by_cases hkn : k ≤ n
                · have hkq : (k : Int) ≤ q := by have := HQ.out; omega
                  rw [if_pos ⟨by have := HDM.out; omega, hodd⟩] at HRD
                  clear hodd hkn
                  go_wp2_with fail
                  refine HRD.out.mono ?_
                  rintro e w7 ⟨rfl, hb7⟩
                  have HB7 := Lib.hid (HBR.out.trans (hb7.mono HBR.out.size))
                  have HD7 := Lib.hid (HDR.out.below hb7)
                  have a0 := HA0.out w7 HB7.out
                  clear hb7 HDR HBR
                  go_wp2_with fail
                  refine (HX.out _).mono ?_
                  rintro e w8 ⟨rfl, hb8⟩
                  have HB8 := Lib.hid (HB7.out.trans (hb8.mono HB7.out.size))
                  have HD8 := Lib.hid (HD7.out.below hb8)
                  clear hb8 HD7 HB7
                  go_wp2_with fail
                  go_roundw
                  case rel => exact ⟨k + 1, hlt, by go_num, HB8.out, O7, HD8.out, HO7.out⟩
                  case measure => simp [intOf]; omega
                · have hkq : ¬ (k : Int) ≤ q := by have := HQ.out; omega
                  rw [if_neg (fun h => by have := HDM.out; omega)] at HRD
                  have x2 := HXZ.out.2
                  clear hodd hkn
                  go_wp2_with fail
                  refine HRD.out.mono ?_
                  rintro e w7 ⟨rfl, hb7⟩
                  have HB7 := Lib.hid (HBR.out.trans (hb7.mono HBR.out.size))
                  have HD7 := Lib.hid (HDR.out.below hb7)
                  have a0 := HA0.out w7 HB7.out
                  clear hb7 HDR HBR
                  go_wp2_with fail
                  refine (HX.out _).mono ?_
                  rintro e w8 ⟨rfl, hb8⟩
                  have HB8 := Lib.hid (HB7.out.trans (hb8.mono HB7.out.size))
                  have HD8 := Lib.hid (HD7.out.below hb8)
                  clear hb8 HD7 HB7
                  go_wp2_with fail
                  go_roundw
                  case rel => exact ⟨k + 1, hlt, by go_num, HB8.out, O7, HD8.out, HO7.out⟩
                  case measure => simp [intOf]; omega
              · have ho : oddI y = false := by simpa using hodd
                have ht := even_and ho
                rw [if_neg (fun h => hodd h.2)] at HRD
                have x2 := HXZ.out.2
                clear hodd ho
                go_wp2_with fail
                refine HRD.out.mono ?_
                rintro e w7 ⟨rfl, hb7⟩
                have HB7 := Lib.hid (HBR.out.trans (hb7.mono HBR.out.size))
                have HD7 := Lib.hid (HDR.out.below hb7)
                have a0 := HA0.out w7 HB7.out
                clear hb7 HDR HBR
                go_wp2_with fail
                refine (HX.out _).mono ?_
                rintro e w8 ⟨rfl, hb8⟩
                have HB8 := Lib.hid (HB7.out.trans (hb8.mono HB7.out.size))
                have HD8 := Lib.hid (HD7.out.below hb8)
                clear hb8 HD7 HB7
                go_wp2_with fail
                go_roundw
                case rel => exact ⟨k + 1, hlt, by go_num, HB8.out, O7, HD8.out, HO7.out⟩
                case measure => simp [intOf]; omega
            · have hD0 : oddI (l.getD k 0) = false := by
                rw [List.getD_eq_getElem?_getD, List.getElem?_eq_none (by rw [HL.out.len]; omega)]
                rfl
              rw [if_neg (fun h => by rw [hD0] at h; cases h.2)] at HRD
              have x2 := HXZ.out.2
              clear hD0
              go_wp2_with fail
              refine HRD.out.mono ?_
              rintro e w7 ⟨rfl, hb7⟩
              have HB7 := Lib.hid (HBR.out.trans (hb7.mono HBR.out.size))
              have HD7 := Lib.hid (HDR.out.below hb7)
              clear hb7 HDR HBR
              go_wp2_with fail
              refine (HX.out _).mono ?_
              rintro e w8 ⟨rfl, hb8⟩
              have HB8 := Lib.hid (HB7.out.trans (hb8.mono HB7.out.size))
              have HD8 := Lib.hid (HD7.out.below hb8)
              clear hb8 HD7 HB7
              go_wp2_with fail
              go_roundw
              case rel => exact ⟨k + 1, hlt, by go_num, HB8.out, O7, HD8.out, HO7.out⟩
              case measure => simp [intOf]; omega
          · obtain rfl : k = j := by omega
            have hkp : ¬ (k : Int) < p := by have := HP.out; omega
            clear hlt hk
            go_wp2_with fail
            refine (HY.out _).mono ?_
            rintro e w8 ⟨rfl, hb8⟩
            have HB8 := Lib.hid (HBR.out.trans (hb8.mono HBR.out.size))
            have HD8 := Lib.hid (HDR.out.below hb8)
            clear hb8 HDR HBR
            go_wp2_with fail
            obtain ⟨W4, hW4⟩ : ∃ W4, W4 = w8.alloc (.cells #[.int .i64 0, .string Y] 45) := ⟨_, rfl⟩
            have bW : Blk W4 w8.heap.size 45 #[.int .i64 0, .string Y] := by rw [hW4]; exact Blk.new _ _ _
            have hWb : Below w8.heap.size w8 W4 := by rw [hW4]; exact (Below.refl _ _).alloc (Nat.le_refl _) _
            rw [← hW4]
            clear hW4
            have hnn : w8.heap.size ∉ O7 := fun hm => absurd (HD8.out.lt hm) (Nat.lt_irrefl _)
            refine (dwrite_any (some ⟨w8.heap.size, 0, none⟩) 1 1 [(0, Y)] (HD8.out.below hWb) (off_ok z X l D).restore rfl (wrts_one bW hnn) (show (0 : Nat) ≤ 9223372036854775807 by decide) (show D + 1 < 1000000000000 by have := HDM.out; have := HWW.out; omega) (show (0 : Nat) + 1 < 1000000000000 by decide)).mono ?_
            rintro e w9 ⟨rfl, hT⟩
            rw [off_write z X Y l D HYS.out]
            obtain ⟨O9, t1, t2, t3⟩ := hT
            have hsz := Nat.le_trans HB8.out.size hWb.size
            have HB9 := Lib.hid ((HB8.out.trans (hWb.mono HB8.out.size)).trans (t3.below HO7.out hsz))
            clear t1 t2 t3 hsz bW hWb hnn HB8 HD8
            go_wp2_with fail
            go_ret
            exact ⟨rfl, HB9.out⟩

set_option maxRecDepth 100000 in
set_option maxHeartbeats 1000000 in
theorem darmed_out (q p : Int) (A : Option Addr) (m c : Nat) (w : World) (h : q < 0 ∨ 60 < q ∨ p < 0 ∨ 60 < p ∨ 60 < m) :
    Calls Try.prog 6 #[.int .i64 q, .int .i64 p, .slice A m c] w fun e w' => e = .returned (.bool true) ∧ Below w.heap.size w w' := by
  by_cases h1 : q < 0
  · go_enter Try.func6, Try.ntmps6
    go_wp2_with fail
    refine (alive7_any _).mono ?_
    rintro e w1 ⟨rfl, hb1⟩
    go_wp2_with fail
    go_ret
    exact ⟨rfl, hb1⟩
  · by_cases h2 : 60 < q
    · go_enter Try.func6, Try.ntmps6
      go_wp2_with fail
      refine (alive7_any _).mono ?_
      rintro e w1 ⟨rfl, hb1⟩
      go_wp2_with fail
      go_ret
      exact ⟨rfl, hb1⟩
    · by_cases h3 : p < 0
      · go_enter Try.func6, Try.ntmps6
        go_wp2_with fail
        refine (alive7_any _).mono ?_
        rintro e w1 ⟨rfl, hb1⟩
        go_wp2_with fail
        go_ret
        exact ⟨rfl, hb1⟩
      · by_cases h4 : 60 < p
        · go_enter Try.func6, Try.ntmps6
          go_wp2_with fail
          refine (alive7_any _).mono ?_
          rintro e w1 ⟨rfl, hb1⟩
          go_wp2_with fail
          go_ret
          exact ⟨rfl, hb1⟩
        · have h5 : 60 < (m : Int) := by omega
          clear h
          go_enter Try.func6, Try.ntmps6
          go_wp2_with fail
          refine (alive7_any _).mono ?_
          rintro e w1 ⟨rfl, hb1⟩
          go_wp2_with fail
          go_ret
          exact ⟨rfl, hb1⟩
theorem darmed_any (q p : Int) (A : Option Addr) (m c : Nat) (l : List Int) (w : World) (_hq : -9223372036854775808 ≤ q ∧ q ≤ 9223372036854775807) (_hp : -9223372036854775808 ≤ p ∧ p ≤ 9223372036854775807) (hl : IntsIn w A m c l) :
    Calls Try.prog 6 #[.int .i64 q, .int .i64 p, .slice A m c] w fun e w' => e = .returned (.bool true) ∧ Below w.heap.size w w' := by
  by_cases h : 0 ≤ q ∧ q ≤ 60 ∧ 0 ≤ p ∧ p ≤ 60 ∧ m ≤ 60
  · exact darmed_in q.toNat p.toNat q p (by omega) (by omega) A m c l w (by omega) (by omega) h.2.2.2.2 hl
  · exact darmed_out q p A m c w (by omega)
end Go.Proofs.Ytokddfbjjghpkaa
