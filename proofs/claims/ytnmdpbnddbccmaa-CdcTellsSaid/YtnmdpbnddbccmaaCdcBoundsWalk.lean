/-
  CdcBounds, walked. No statement is proved here.
-/
import Derived.Test.YtnmdpbnddbccmaaCdcAlive
import Derived.Deep.CutRange
import Derived.Deep.Cut
namespace Go.Proofs.Ytnmdpbnddbccmaa
open Go.RowKit

/-- A rule's block. -/
abbrev RuleAt (w : World) (g : Nat) (R : RuleN) : Prop := Blk w g 23 #[.int .i64 R.mn, .int .i64 R.md, .int .i64 R.mx, .int .i64 R.hd, .int .i64 R.sf]
theorem cat1 (s : ByteArray) : cats [s] = s.data.toList := by simp [cats]
theorem cutL_int {R : RuleN} {l : List UInt8} {i : Nat} {x0 x1 : Int} (hx : (cutL R 0 l)[i]? = some (x0, x1)) : 0 ≤ x0 ∧ x0 < x1 ∧ x1 ≤ (l.length : Int) := by
  obtain ⟨f, e0, e1, e2, -⟩ := cutL_at R 0 l i x0 x1 hx
  have hne : l.drop f ≠ [] := by
    intro e
    have := congrArg List.length e
    rw [List.length_drop, List.length_nil] at this
    omega
  have h1 := firstL_pos R _ hne
  have h2 := firstL_le R (l.drop f)
  rw [List.length_drop] at h2
  omega

set_option maxRecDepth 100000 in
set_option maxHeartbeats 8000000 in
theorem cbounds_any (R : RuleN) (own : Bool) (s : ByteArray) (w : World) (hs : s.size ≤ 140737488351232) :
    Calls Try.prog 4 #[R.val, .bool own, .string s] w fun e w' => e = .returned (.bool true) ∧ Below w.heap.size w w' := by
  have HAL := Lib.hid alive14_any
  have HBK : Hid (RuleAt (w.alloc (.cells #[.int .i64 R.mn, .int .i64 R.md, .int .i64 R.mx, .int .i64 R.hd, .int .i64 R.sf] 23)) w.heap.size R) := Lib.hid (Blk.new w _ _)
  obtain ⟨a, b, c5, d, e5⟩ := R
  simp only at HBK
  obtain ⟨w1, hw1⟩ : ∃ w1, w1 = w.alloc (.cells #[.int .i64 a, .int .i64 b, .int .i64 c5, .int .i64 d, .int .i64 e5] 23) := ⟨_, rfl⟩
  have HB1 : Hid (Below w.heap.size w w1) := Lib.hid (by rw [hw1]; exact (Below.refl _ _).alloc (Nat.le_refl _) _)
  rw [← hw1] at HBK
  have HW1 := Lib.hid hw1
  clear hw1
  unfold RuleN.val
  simp only
  by_cases hs1 : 1500 < s.size
  · have hs2 : (1500 : Int) < (s.size : Int) := by omega
    go_enter Try.func4, Try.ntmps4
    go_wp2_with fail
    rw [← HW1.out]
    refine (HAL.out _).mono ?_
    rintro e w2 ⟨rfl, hb2⟩
    have HB2 := Lib.hid (HB1.out.trans (hb2.mono HB1.out.size))
    clear hb2
    go_wp2_with fail
    go_ret
    exact ⟨rfl, HB2.out⟩
  have hs2 : decide ((1500 : Int) < (s.size : Int)) = false := decide_eq_false (by omega)
  go_enter Try.func4, Try.ntmps4
  go_wp2_with fail
  rw [← HW1.out]
  refine (HAL.out _).mono ?_
  rintro e w2 ⟨rfl, hb2⟩
  have HB2 := Lib.hid (HB1.out.trans (hb2.mono HB1.out.size))
  have HBK2 := Lib.hid (HBK.out.below hb2 HBK.out.lt)
  clear hb2
  go_upto_if 18 with fail
  go_cut [] from 19 to 19 (fun wx => ∃ R', RuleAt wx w.heap.size R' ∧ Below w.heap.size w wx)
  case first =>
    cases own with
    | false =>
      go_wp2_with fail
      go_meet
      exact ⟨⟨a, b, c5, d, e5⟩, HBK2.out, HB2.out⟩
    | true =>
      go_wp2_with fail
      refine (default_any _).mono ?_
      rintro e w3 ⟨rfl, hb3⟩
      have hbk := HBK2.out.below hb3 HBK2.out.lt
      have hb33 := HB2.out.trans (hb3.mono HB2.out.size)
      have c0 : w3.cell? ⟨w.heap.size, 0, none⟩ = some (.int .i64 a) := hbk.cell 0
      have c1 : w3.cell? ⟨w.heap.size, 1, none⟩ = some (.int .i64 b) := hbk.cell 1
      have c2 : w3.cell? ⟨w.heap.size, 2, none⟩ = some (.int .i64 c5) := hbk.cell 2
      have c3 : w3.cell? ⟨w.heap.size, 3, none⟩ = some (.int .i64 d) := hbk.cell 3
      have c4 : w3.cell? ⟨w.heap.size, 4, none⟩ = some (.int .i64 e5) := hbk.cell 4
      have f0 : w3.frozen? ⟨w.heap.size, 0, none⟩ = false := hbk.frozen 0
      have f1 : w3.frozen? ⟨w.heap.size, 1, none⟩ = false := hbk.frozen 1
      have f2 : w3.frozen? ⟨w.heap.size, 2, none⟩ = false := hbk.frozen 2
      have f3 : w3.frozen? ⟨w.heap.size, 3, none⟩ = false := hbk.frozen 3
      have f4 : w3.frozen? ⟨w.heap.size, 4, none⟩ = false := hbk.frozen 4
      have HK := Lib.hid hbk
      have HB3 := Lib.hid hb33
      clear hbk hb33 hb3
      go_wp2_with fail
      go_meet
      exact ⟨dfl, ((((HK.out.put 0 _).put 1 _).put 2 _).put 3 _).put 4 _, ((((HB3.out.setCell (Nat.le_refl _) _).setCell (Nat.le_refl _) _).setCell (Nat.le_refl _) _).setCell (Nat.le_refl _) _).setCell (Nat.le_refl _) _⟩
  case rest =>
  obtain ⟨⟨a', b', c', d', e'⟩, hbk, hbc⟩ := hcut
  have HK := Lib.hid hbk
  have HBC := Lib.hid hbc
  have c0 : wc.cell? ⟨w.heap.size, 0, none⟩ = some (.int .i64 a') := hbk.cell 0
  have c1 : wc.cell? ⟨w.heap.size, 1, none⟩ = some (.int .i64 b') := hbk.cell 1
  have c2 : wc.cell? ⟨w.heap.size, 2, none⟩ = some (.int .i64 c') := hbk.cell 2
  have c3 : wc.cell? ⟨w.heap.size, 3, none⟩ = some (.int .i64 d') := hbk.cell 3
  have c4 : wc.cell? ⟨w.heap.size, 4, none⟩ = some (.int .i64 e') := hbk.cell 4
  obtain ⟨V, hV⟩ : ∃ V, V = (RuleN.mk a' b' c' d' e').ok := ⟨_, rfl⟩
  have hva := cvalid_any ⟨a', b', c', d', e'⟩
  rw [← hV] at hva
  have HVA := Lib.hid hva
  have HV := Lib.hid hV
  clear hbk hbc hva hV
  unfold RuleN.val at HVA
  simp only at HVA
  go_wp2_with fail
  refine (HVA.out _).mono ?_
  rintro e w3 ⟨rfl, hb3⟩
  have HK3 := Lib.hid (HK.out.below hb3 HK.out.lt)
  have HB3 := Lib.hid (HBC.out.trans (hb3.mono HBC.out.size))
  clear hb3
  cases V with
  | false =>
    go_wp2_with fail
    go_ret
    exact ⟨rfl, HB3.out⟩
  | true =>
  have c0 : w3.cell? ⟨w.heap.size, 0, none⟩ = some (.int .i64 a') := HK3.out.cell 0
  have c1 : w3.cell? ⟨w.heap.size, 1, none⟩ = some (.int .i64 b') := HK3.out.cell 1
  have c2 : w3.cell? ⟨w.heap.size, 2, none⟩ = some (.int .i64 c') := HK3.out.cell 2
  have c3 : w3.cell? ⟨w.heap.size, 3, none⟩ = some (.int .i64 d') := HK3.out.cell 3
  have c4 : w3.cell? ⟨w.heap.size, 4, none⟩ = some (.int .i64 e') := HK3.out.cell 4
  obtain ⟨l, hl⟩ : ∃ l, l = cutL ⟨a', b', c', d', e'⟩ 0 s.data.toList := ⟨_, rfl⟩
  obtain ⟨M, hM⟩ : ∃ M, M = l.length := ⟨_, rfl⟩
  have hsz : s.data.toList.length = s.size := by rw [← Lib.size_eq]
  have HM1 : Hid (M ≤ 1500) := Lib.hid (by rw [hM, hl]; have := cutL_few ⟨a', b', c', d', e'⟩ 0 s.data.toList; omega)
  have hcut := ccut_any ⟨a', b', c', d', e'⟩ (some ⟨w3.heap.size, 0, none⟩) 1 1 [s] (w3.alloc (.cells #[.string s] 9)) rfl (txts_at _ _ _ _ rfl rfl) (by omega) (Nat.le_refl _) (by rw [cat1]; omega)
  rw [cat1, ← hl, ← hM] at hcut
  have HCUT := Lib.hid hcut
  have HWB : Hid (wholeB (s.size : Int) l = true) := Lib.hid (by rw [hl, ← hsz]; exact cutL_wholeB _ _)
  have HLEN : Hid (∀ (i : Nat) (x0 x1 : Int), l[i]? = some (x0, x1) → (0 ≤ x0 ∧ x0 < x1 ∧ x1 ≤ 1500) ∧ x1 - x0 ≤ c' ∧ (i + 1 < M → a' ≤ x1 - x0)) := Lib.hid (fun i x0 x1 hx => by
    rw [hl] at hx
    have h1 := cutL_int hx
    have h2 := cutL_lens HV.out.symm hx
    rw [← hl, ← hM] at h2
    exact ⟨by omega, h2⟩)
  have HM := Lib.hid hM
  clear hcut hM hl hsz
  unfold RuleN.val at HCUT
  simp only at HCUT
  go_wp2_with fail
  refine HCUT.out.mono ?_
  rintro e w4 ⟨p, cap, rfl, hown, hb4⟩
  have hb34 : Below w3.heap.size w3 w4 := ((Below.refl _ _).alloc (Nat.le_refl _) _).trans (hb4.mono (by simp))
  have HB4 := Lib.hid (HB3.out.trans (hb34.mono HB3.out.size))
  have HK4 := Lib.hid (HK3.out.below hb34 HK3.out.lt)
  have HSP : Hid (Spans w4 w4.heap.size p l) := Lib.hid (row_spans (by rw [← HM.out]; exact hown))
  have HRW := Lib.hid (rwhole_any (s.size : Int) p M cap l w4 HM.out.symm HSP.out (by have := HM1.out; omega))
  rw [HWB.out] at HRW
  have d0 : w4.cell? ⟨w.heap.size, 0, none⟩ = some (.int .i64 a') := HK4.out.cell 0
  have d2 : w4.cell? ⟨w.heap.size, 2, none⟩ = some (.int .i64 c') := HK4.out.cell 2
  clear hown hb4 hb34 c0 c1 c2 c3 c4
  go_wp2_with fail
  refine HRW.out.mono ?_
  rintro e w5 ⟨rfl, rfl⟩
  have hM15 : M ≤ 1500 := HM1.out
  go_wp2_with fail
  go_loopw [8] (fun i wr => ∃ j : Nat, j ≤ M ∧ i = .int .i64 (j : Int) ∧ Below w4.heap.size w4 wr) (fun i _ => M - (intOf i).toNat)
  case atStart => exact ⟨0, Nat.zero_le _, rfl, Below.refl _ _⟩
  case round =>
    obtain ⟨j, hj, rfl, hbr⟩ := hrel
    have HBR := Lib.hid hbr
    clear d0 d2 hbr
    by_cases hlt : j < M
    · obtain ⟨x0, x1, hxj⟩ := spans_get HM.out.symm hlt
      obtain ⟨bb, off, hA, hbB, hc⟩ := HSP.out (by rw [← HM.out]; omega)
      obtain ⟨t0, t1⟩ := hc j _ hxj
      simp only at t0 t1
      have e0 : wr.cell? ⟨bb, off + j * 2, none⟩ = some (.int .i64 x0) := (HBR.out.cell (p := ⟨bb, off + j * 2, none⟩) hbB).trans t0
      have e1 : wr.cell? ⟨bb, off + j * 2 + 1, none⟩ = some (.int .i64 x1) := (HBR.out.cell (p := ⟨bb, off + j * 2 + 1, none⟩) hbB).trans t1
      obtain ⟨hr, hmx, hmn⟩ := HLEN.out j x0 x1 hxj
      have hkr := HK4.out.below HBR.out HK4.out.lt
      have d0 : wr.cell? ⟨w.heap.size, 0, none⟩ = some (.int .i64 a') := hkr.cell 0
      have d2 : wr.cell? ⟨w.heap.size, 2, none⟩ = some (.int .i64 c') := hkr.cell 2
      obtain ⟨nn, hnn⟩ : ∃ nn, nn = x1 - x0 := ⟨_, rfl⟩
      have hwr : IntKind.i64.wrap (x1 - x0) = nn := by rw [IntKind.wrap_i64]; omega
      have hmx' : decide (c' < nn) = false := decide_eq_false (by omega)
      have HMN : Hid (j + 1 < M → a' ≤ nn) := Lib.hid (by rw [hnn]; exact hmn)
      clear hc t0 t1 hxj hbB hmn hkr hmx hnn
      subst hA
      have hj1 : IntKind.i64.wrap ((j : Int) + 1) = (j : Int) + 1 := by rw [IntKind.wrap_i64]; omega
      by_cases hjn : j + 1 < M
      · have hjn' : decide ((j : Int) + 1 < (M : Int)) = true := decide_eq_true (by omega)
        have hmn' : decide (nn < a') = false := decide_eq_false (by have := HMN.out hjn; omega)
        clear hjn
        go_wp2_with fail
        go_quiet (fail)
        go_wp2_with fail
        go_roundw
        case rel => exact ⟨j + 1, by omega, by go_num, HBR.out.trans (below_dn _ _)⟩
        case measure => simp [intOf]; omega
      · have hjn' : decide ((j : Int) + 1 < (M : Int)) = false := decide_eq_false (by omega)
        clear hjn
        go_wp2_with fail
        go_quiet (fail)
        go_wp2_with fail
        go_roundw
        case rel => exact ⟨j + 1, by omega, by go_num, HBR.out.trans (below_dn _ _)⟩
        case measure => simp [intOf]; omega
    · obtain rfl : j = M := by omega
      go_wp2_with fail
      go_ret
      exact ⟨rfl, HB4.out.trans (HBR.out.mono HB4.out.size)⟩
end Go.Proofs.Ytnmdpbnddbccmaa
