/-
  BitsRead, walked: both readers answer alike, act for act.
-/
import Derived.Test.YtdfickppfihiiaaDoorReadOut
namespace Go.Proofs.YtdfickppfihiiaaDoor
open Go.RowKit

/-- Both readers stand alike, and nothing that was there has turned. -/
def Both (w : World) (g r : Nat) (wr : World) : Prop :=
  ∃ s : Rd, InAt wr g s ∧ RefAt wr r s ∧ s.b.size ≤ 2000 ∧ Below w.heap.size w wr
theorem both_next {w wr w3 w4 : World} {g r : Nat} {s : Rd} (hgw : w.heap.size ≤ g) (hrw : w.heap.size ≤ r) (hne : g ≠ r) (hb : Below w.heap.size w wr) (h3 : InAt w3 g s) (hg3 : wr.grownBy w3 (some g)) (r4 : RefAt w4 r s) (hg4 : w3.grownBy w4 (some r)) (hs : s.b.size ≤ 2000) : Both w g r w4 :=
  ⟨s, h3.grown hg4 (by simpa using hne), r4, hs, below_by_new (below_by_new hb hg3 hgw) hg4 hrw⟩

set_option maxRecDepth 100000 in
set_option maxHeartbeats 4000000 in
theorem read_in (x : ByteArray) (A : Option Addr) (c : Nat) (ds : List OpD) (w : World) (hx : x.size ≤ 2000) (hA : Acts w w.heap.size A ds) (hf : ∀ d ∈ ds, d.fits) (hn : ds.length ≤ 9223372036854775807) :
    Calls Tryd.prog 3 #[.string x, .slice A ds.length c] w fun e w' => e = .returned (.bool true) ∧ Below w.heap.size w w' := by
  have HA := Lib.hid hA
  have HF := Lib.hid hf
  have HN := Lib.hid hn
  have HL := Lib.hid (light_any A c ds w hA hf hn)
  clear hA hf hn
  obtain ⟨n, en⟩ : ∃ n, n = ds.length := ⟨_, rfl⟩
  have EN := Lib.hid en
  rw [← en] at HL ⊢
  have hn' : (n : Int) ≤ 9223372036854775807 := by have := HN.out; omega
  clear en
  go_enter Tryd.func3, Tryd.ntmps3
  go_wp2_with fail
  with_reducible refine HL.out.mono ?_
  rintro e w0 ⟨⟨b, rfl⟩, hb0⟩
  cases b with
  | false =>
    go_wp2_with fail
    refine (alive_any _).mono ?_
    rintro e w1 ⟨rfl, hb1⟩
    go_wp2_with fail
    go_ret
    exact ⟨rfl, hb0.trans (hb1.mono hb0.size)⟩
  | true =>
    go_wp2_with fail
    refine (alive_any _).mono ?_
    rintro e w1 ⟨rfl, hb1⟩
    have hb1' : Below w.heap.size w w1 := hb0.trans (hb1.mono hb0.size)
    clear hb0 hb1
    go_wp2_with fail
    with_reducible refine (on_any x _ (by omega)).mono ?_
    rintro e w2 ⟨g, rfl, hg, h2, hc2⟩
    have hb2 : Below w.heap.size w w2 := hb1'.trans (hc2.mono hb1'.size)
    have hgw : w.heap.size ≤ g := Nat.le_trans hb1'.size hg
    have hgl := Blk.lt h2
    clear hc2 hb1' hg hgl
    go_wp2_with fail
    obtain ⟨r, hr⟩ : ∃ r, r = w2.heap.size := ⟨_, rfl⟩
    have hrw : w.heap.size ≤ r := by rw [hr]; exact hb2.size
    have hne : g ≠ r := by have := Blk.lt h2; omega
    have hB0 : Both w g r (w2.alloc (.cells #[.string x, .int .i64 0] 30)) := by
      refine ⟨⟨x, 0⟩, Blk.alloc h2 _, ⟨fun h => (h rfl).elim, x, ?_, fun _ => rfl, by omega⟩, hx, hb2.alloc hb2.size _⟩
      rw [hr]
      exact Blk.new _ _ _
    rw [← hr]
    clear hr hb2 h2
    go_loopw [7] (fun i wr => ∃ j : Nat, j ≤ n ∧ i = .int .i64 j ∧ Both w g r wr) (fun i _ => n - (intOf i).toNat)
    case atStart => exact ⟨0, Nat.zero_le _, rfl, hB0⟩
    case round =>
      obtain ⟨j, hj, rfl, s, h0, r0, hs, hbr⟩ := hrel
      clear hB0
      have HB := Lib.hid (show s.b.size ≤ 140737488351232 by omega)
      have HS := Lib.hid hs
      have H0 := Lib.hid h0
      have R0 := Lib.hid r0
      clear hs h0 r0
      by_cases hlt : j < n
      · have hxl : j < ds.length := by rw [← EN.out]; exact hlt
        obtain ⟨b, off, eA, hbB, hc⟩ := HA.out (by omega)
        obtain ⟨d, hd⟩ : ∃ d, d = ds[j] := ⟨_, rfl⟩
        obtain ⟨⟨a0, a1, _, _⟩, _⟩ := hc j d (by rw [hd]; exact List.getElem?_eq_getElem hxl)
        obtain ⟨kd, hkd⟩ : ∃ kd, kd = d.kind := ⟨_, rfl⟩
        obtain ⟨nd, hnd⟩ : ∃ nd, nd = d.n := ⟨_, rfl⟩
        rw [← hkd] at a0
        rw [← hnd] at a1
        have k0 : wr.cell? ⟨b, off + j * 4, none⟩ = some (.int .i64 kd) := (hbr.cell (p := ⟨b, off + j * 4, none⟩) hbB).trans a0
        have K1 := Lib.hid (show wr.cell? ⟨b, off + j * 4 + 1, none⟩ = some (.int .i64 nd) from (hbr.cell (p := ⟨b, off + j * 4 + 1, none⟩) hbB).trans a1)
        clear hc hd a0 a1 hkd hnd hxl
        subst eA
        rcases (show kd < 1 ∨ (1 ≤ kd ∧ kd ≤ 1) ∨ (2 ≤ kd ∧ kd ≤ 2) ∨ (3 ≤ kd ∧ kd ≤ 3) ∨ (4 ≤ kd ∧ kd ≤ 4) ∨ (5 ≤ kd ∧ kd ≤ 5) ∨ 5 < kd by omega) with q | ⟨q, q'⟩ | ⟨q, q'⟩ | ⟨q, q'⟩ | ⟨q, q'⟩ | ⟨q, q'⟩ | q
        · go_wp2_with fail
          have k1 := K1.out
          go_region_held3 (fun w' => w'.cell? ⟨b, off + j * 4 + 1, none⟩ = some (.int .i64 nd)) (first | exact k1 | exact k3 | exact k4)
            (first
              | (go_at_call 19; refine (in_raw g s nd _ (Blk.drew H0.out) HB.out).mono ?_; rintro e w3 ⟨rfl, h3, hg3⟩; have k3 : w3.cell? ⟨b, off + j * 4 + 1, none⟩ = some (.int .i64 nd) := hg3.cell (w := wr.drew) k1 (by simp; omega); have r3 : RefAt w3 r s := RefAt.grown (w := wr.drew) R0.out hg3 (by simpa using fun e => hne e.symm))
              | (go_at_call 20; refine (ref_raw r s nd _ r3).mono ?_; rintro e w4 ⟨rfl, r4, hg4⟩; have k4 : w4.cell? ⟨b, off + j * 4 + 1, none⟩ = some (.int .i64 nd) := hg4.cell k3 (by simp; omega)))
          have hsz := s.size_raw nd
          obtain ⟨s1, es1⟩ : ∃ s1, s1 = (s.raw nd).2 := ⟨_, rfl⟩
          rw [← es1] at h3 r4 hsz
          have hg3' : wr.grownBy w3 (some g) := by_trans (by_drew (by_refl wr (some g))) hg3
          have HN := Lib.hid (both_next hgw hrw hne hbr h3 hg3' r4 hg4 (by have := HS.out; omega))
          have h4 : InAt w4 g s1 := Blk.grown h3 hg4 (by simpa using hne)
          have HB1 := Lib.hid (show s1.b.size ≤ 140737488351232 by have := HB.out; omega)
          clear h3 hg3 hg3' r3 hg4 es1 hsz k0 k1 k3 k4
          go_wp2_with fail
          with_reducible refine (in_left g s1 _ h4 HB1.out).mono ?_
          rintro e v ⟨rfl, rfl⟩
          go_wp2_with fail
          with_reducible refine (ref_left r s1 _ r4).mono ?_
          rintro e v ⟨rfl, rfl⟩
          go_wp2_with fail
          with_reducible refine (in_rest g s1 _ h4).mono ?_
          rintro e v ⟨rfl, rfl⟩
          go_wp2_with fail
          with_reducible refine (ref_rest r s1 _ r4).mono ?_
          rintro e v ⟨rfl, rfl⟩
          clear h4 r4
          go_wp2_with fail
          go_roundw
          case rel => exact ⟨j + 1, by omega, by go_num, HN.out⟩
          case measure => simp [intOf]; omega
        · go_wp2_with fail
          with_reducible refine (in_byte g s _ H0.out HB.out).mono ?_
          rintro e w3 ⟨rfl, h3, hg3⟩
          have r3 := R0.out.grown hg3 (by simpa using fun e => hne e.symm)
          go_wp2_with fail
          refine (ref_num r s 1 _ r3 (by omega)).mono ?_
          rintro e w4 ⟨rfl, r4, hg4⟩
          have hsz := s.size_num 1
          obtain ⟨s1, es1⟩ : ∃ s1, s1 = (s.num 1).2 := ⟨_, rfl⟩
          rw [← es1] at h3 r4 hsz
          have HN := Lib.hid (both_next hgw hrw hne hbr h3 hg3 r4 hg4 (by have := HS.out; omega))
          have h4 : InAt w4 g s1 := Blk.grown h3 hg4 (by simpa using hne)
          have HB1 := Lib.hid (show s1.b.size ≤ 140737488351232 by have := HB.out; omega)
          clear h3 hg3 r3 hg4 es1 hsz k0
          go_wp2_with fail
          with_reducible refine (in_left g s1 _ h4 HB1.out).mono ?_
          rintro e v ⟨rfl, rfl⟩
          go_wp2_with fail
          with_reducible refine (ref_left r s1 _ r4).mono ?_
          rintro e v ⟨rfl, rfl⟩
          go_wp2_with fail
          with_reducible refine (in_rest g s1 _ h4).mono ?_
          rintro e v ⟨rfl, rfl⟩
          go_wp2_with fail
          with_reducible refine (ref_rest r s1 _ r4).mono ?_
          rintro e v ⟨rfl, rfl⟩
          clear h4 r4
          go_wp2_with fail
          go_roundw
          case rel => exact ⟨j + 1, by omega, by go_num, HN.out⟩
          case measure => simp [intOf]; omega
        · go_wp2_with fail
          with_reducible refine (in_half g s _ H0.out HB.out).mono ?_
          rintro e w3 ⟨rfl, h3, hg3⟩
          have r3 := R0.out.grown hg3 (by simpa using fun e => hne e.symm)
          go_wp2_with fail
          refine (ref_num r s 2 _ r3 (by omega)).mono ?_
          rintro e w4 ⟨rfl, r4, hg4⟩
          have hsz := s.size_num 2
          obtain ⟨s1, es1⟩ : ∃ s1, s1 = (s.num 2).2 := ⟨_, rfl⟩
          rw [← es1] at h3 r4 hsz
          have HN := Lib.hid (both_next hgw hrw hne hbr h3 hg3 r4 hg4 (by have := HS.out; omega))
          have h4 : InAt w4 g s1 := Blk.grown h3 hg4 (by simpa using hne)
          have HB1 := Lib.hid (show s1.b.size ≤ 140737488351232 by have := HB.out; omega)
          clear h3 hg3 r3 hg4 es1 hsz k0
          go_wp2_with fail
          with_reducible refine (in_left g s1 _ h4 HB1.out).mono ?_
          rintro e v ⟨rfl, rfl⟩
          go_wp2_with fail
          with_reducible refine (ref_left r s1 _ r4).mono ?_
          rintro e v ⟨rfl, rfl⟩
          go_wp2_with fail
          with_reducible refine (in_rest g s1 _ h4).mono ?_
          rintro e v ⟨rfl, rfl⟩
          go_wp2_with fail
          with_reducible refine (ref_rest r s1 _ r4).mono ?_
          rintro e v ⟨rfl, rfl⟩
          clear h4 r4
          go_wp2_with fail
          go_roundw
          case rel => exact ⟨j + 1, by omega, by go_num, HN.out⟩
          case measure => simp [intOf]; omega
        · go_wp2_with fail
          with_reducible refine (in_word g s _ H0.out HB.out).mono ?_
          rintro e w3 ⟨rfl, h3, hg3⟩
          have r3 := R0.out.grown hg3 (by simpa using fun e => hne e.symm)
          go_wp2_with fail
          refine (ref_num r s 4 _ r3 (by omega)).mono ?_
          rintro e w4 ⟨rfl, r4, hg4⟩
          have hsz := s.size_num 4
          obtain ⟨s1, es1⟩ : ∃ s1, s1 = (s.num 4).2 := ⟨_, rfl⟩
          rw [← es1] at h3 r4 hsz
          have HN := Lib.hid (both_next hgw hrw hne hbr h3 hg3 r4 hg4 (by have := HS.out; omega))
          have h4 : InAt w4 g s1 := Blk.grown h3 hg4 (by simpa using hne)
          have HB1 := Lib.hid (show s1.b.size ≤ 140737488351232 by have := HB.out; omega)
          clear h3 hg3 r3 hg4 es1 hsz k0
          go_wp2_with fail
          with_reducible refine (in_left g s1 _ h4 HB1.out).mono ?_
          rintro e v ⟨rfl, rfl⟩
          go_wp2_with fail
          with_reducible refine (ref_left r s1 _ r4).mono ?_
          rintro e v ⟨rfl, rfl⟩
          go_wp2_with fail
          with_reducible refine (in_rest g s1 _ h4).mono ?_
          rintro e v ⟨rfl, rfl⟩
          go_wp2_with fail
          with_reducible refine (ref_rest r s1 _ r4).mono ?_
          rintro e v ⟨rfl, rfl⟩
          clear h4 r4
          go_wp2_with fail
          go_roundw
          case rel => exact ⟨j + 1, by omega, by go_num, HN.out⟩
          case measure => simp [intOf]; omega
        · go_wp2_with fail
          with_reducible refine (in_long g s _ H0.out HB.out).mono ?_
          rintro e w3 ⟨rfl, h3, hg3⟩
          have r3 := R0.out.grown hg3 (by simpa using fun e => hne e.symm)
          go_wp2_with fail
          refine (ref_num r s 8 _ r3 (by omega)).mono ?_
          rintro e w4 ⟨rfl, r4, hg4⟩
          have hsz := s.size_num 8
          obtain ⟨s1, es1⟩ : ∃ s1, s1 = (s.num 8).2 := ⟨_, rfl⟩
          rw [← es1] at h3 r4 hsz
          have HN := Lib.hid (both_next hgw hrw hne hbr h3 hg3 r4 hg4 (by have := HS.out; omega))
          have h4 : InAt w4 g s1 := Blk.grown h3 hg4 (by simpa using hne)
          have HB1 := Lib.hid (show s1.b.size ≤ 140737488351232 by have := HB.out; omega)
          clear h3 hg3 r3 hg4 es1 hsz k0
          go_wp2_with fail
          with_reducible refine (in_left g s1 _ h4 HB1.out).mono ?_
          rintro e v ⟨rfl, rfl⟩
          go_wp2_with fail
          with_reducible refine (ref_left r s1 _ r4).mono ?_
          rintro e v ⟨rfl, rfl⟩
          go_wp2_with fail
          with_reducible refine (in_rest g s1 _ h4).mono ?_
          rintro e v ⟨rfl, rfl⟩
          go_wp2_with fail
          with_reducible refine (ref_rest r s1 _ r4).mono ?_
          rintro e v ⟨rfl, rfl⟩
          clear h4 r4
          go_wp2_with fail
          go_roundw
          case rel => exact ⟨j + 1, by omega, by go_num, HN.out⟩
          case measure => simp [intOf]; omega
        · go_wp2_with fail
          with_reducible refine (in_text g s _ H0.out HB.out).mono ?_
          rintro e w3 ⟨rfl, h3, hg3⟩
          have r3 := R0.out.grown hg3 (by simpa using fun e => hne e.symm)
          go_wp2_with fail
          refine (ref_text r s _ r3).mono ?_
          rintro e w4 ⟨rfl, r4, hg4⟩
          have hsz := s.size_text
          obtain ⟨s1, es1⟩ : ∃ s1, s1 = s.text.2 := ⟨_, rfl⟩
          rw [← es1] at h3 r4 hsz
          have HN := Lib.hid (both_next hgw hrw hne hbr h3 hg3 r4 hg4 (by have := HS.out; omega))
          have h4 : InAt w4 g s1 := Blk.grown h3 hg4 (by simpa using hne)
          have HB1 := Lib.hid (show s1.b.size ≤ 140737488351232 by have := HB.out; omega)
          clear h3 hg3 r3 hg4 es1 hsz k0
          go_wp2_with fail
          with_reducible refine (in_left g s1 _ h4 HB1.out).mono ?_
          rintro e v ⟨rfl, rfl⟩
          go_wp2_with fail
          with_reducible refine (ref_left r s1 _ r4).mono ?_
          rintro e v ⟨rfl, rfl⟩
          go_wp2_with fail
          with_reducible refine (in_rest g s1 _ h4).mono ?_
          rintro e v ⟨rfl, rfl⟩
          go_wp2_with fail
          with_reducible refine (ref_rest r s1 _ r4).mono ?_
          rintro e v ⟨rfl, rfl⟩
          clear h4 r4
          go_wp2_with fail
          go_roundw
          case rel => exact ⟨j + 1, by omega, by go_num, HN.out⟩
          case measure => simp [intOf]; omega
        · go_wp2_with fail
          have k1 := K1.out
          go_region_held3 (fun w' => w'.cell? ⟨b, off + j * 4 + 1, none⟩ = some (.int .i64 nd)) (first | exact k1 | exact k3 | exact k4)
            (first
              | (go_at_call 19; refine (in_raw g s nd _ (Blk.drew H0.out) HB.out).mono ?_; rintro e w3 ⟨rfl, h3, hg3⟩; have k3 : w3.cell? ⟨b, off + j * 4 + 1, none⟩ = some (.int .i64 nd) := hg3.cell (w := wr.drew) k1 (by simp; omega); have r3 : RefAt w3 r s := RefAt.grown (w := wr.drew) R0.out hg3 (by simpa using fun e => hne e.symm))
              | (go_at_call 20; refine (ref_raw r s nd _ r3).mono ?_; rintro e w4 ⟨rfl, r4, hg4⟩; have k4 : w4.cell? ⟨b, off + j * 4 + 1, none⟩ = some (.int .i64 nd) := hg4.cell k3 (by simp; omega)))
          have hsz := s.size_raw nd
          obtain ⟨s1, es1⟩ : ∃ s1, s1 = (s.raw nd).2 := ⟨_, rfl⟩
          rw [← es1] at h3 r4 hsz
          have hg3' : wr.grownBy w3 (some g) := by_trans (by_drew (by_refl wr (some g))) hg3
          have HN := Lib.hid (both_next hgw hrw hne hbr h3 hg3' r4 hg4 (by have := HS.out; omega))
          have h4 : InAt w4 g s1 := Blk.grown h3 hg4 (by simpa using hne)
          have HB1 := Lib.hid (show s1.b.size ≤ 140737488351232 by have := HB.out; omega)
          clear h3 hg3 hg3' r3 hg4 es1 hsz k0 k1 k3 k4
          go_wp2_with fail
          with_reducible refine (in_left g s1 _ h4 HB1.out).mono ?_
          rintro e v ⟨rfl, rfl⟩
          go_wp2_with fail
          with_reducible refine (ref_left r s1 _ r4).mono ?_
          rintro e v ⟨rfl, rfl⟩
          go_wp2_with fail
          with_reducible refine (in_rest g s1 _ h4).mono ?_
          rintro e v ⟨rfl, rfl⟩
          go_wp2_with fail
          with_reducible refine (ref_rest r s1 _ r4).mono ?_
          rintro e v ⟨rfl, rfl⟩
          clear h4 r4
          go_wp2_with fail
          go_roundw
          case rel => exact ⟨j + 1, by omega, by go_num, HN.out⟩
          case measure => simp [intOf]; omega
      · have hje : (n : Int) ≤ (j : Int) := by omega
        go_wp2_with fail
        with_reducible refine (in_end g s _ H0.out).mono ?_
        rintro e w3 ⟨rfl, _, hg3⟩
        have r3 := R0.out.grown hg3 (by simpa using fun e => hne e.symm)
        go_wp2_with fail
        with_reducible refine (ref_end r s _ r3).mono ?_
        rintro e w4 ⟨rfl, _, hg4⟩
        have hb4 := below_by_new (below_by_new hbr hg3 hgw) hg4 hrw
        clear hg3 r3 hg4
        go_wp2_with fail
        go_ret
        exact ⟨by simp, hb4⟩
end Go.Proofs.YtdfickppfihiiaaDoor
