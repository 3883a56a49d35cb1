/-
  'Are acts few and short enough?': if the law's Light says so, they are; the law's own need. No statement is proved here.
-/
import Derived.Test.YtnamokngiebicaaGreatDoorChainActs
import Derived.Test.YtnamokngiebicaaGreatDoorLinkSmall
import Derived.Deep.RegionHeld3
import Derived.Deep.RegionWith
namespace Go.Proofs.YtnamokngiebicaaGreatDoor
open Go.RowKit

set_option maxRecDepth 100000 in
set_option maxHeartbeats 1000000 in
/-- masonrybook's Room over few numbers: what is left, or below 0. -/
theorem room12_any (left : Int) (A : Option Addr) (n c : Nat) (xs : List Int) (w : World) (hn : xs.length = n) (hx : IntsD w A xs) (hl : -1 ≤ left ∧ left ≤ 8000) (hp : ∀ x ∈ xs, 0 ≤ x ∧ x ≤ 9223372036854775807) (hm : n ≤ 100) :
    Calls Tryz.prog 48 #[.int .i64 left, .slice A n c] w fun e w' => (∃ r : Int, e = .returned (.int .i64 r) ∧ -1 ≤ r ∧ r ≤ 8000 ∧ (0 ≤ r → 0 ≤ left ∧ ∀ x ∈ xs, x ≤ 8000)) ∧ w = w' := by
  have HX := Lib.hid hx
  have HP := Lib.hid hp
  have HN := Lib.hid hn
  clear hx hp hn
  obtain ⟨l0, l1⟩ := hl
  go_enter Tryz.func48, Tryz.ntmps48
  go_wp2_with fail
  go_loop [0, 5] (fun v i => ∃ (r : Int) (j : Nat), j ≤ n ∧ i = .int .i64 j ∧ v = .int .i64 r ∧ -1 ≤ r ∧ r ≤ 8000 ∧ (0 ≤ r → 0 ≤ left ∧ ∀ x ∈ xs.take j, x ≤ 8000)) (fun _ i => n - (intOf i).toNat)
  case atStart => exact ⟨left, 0, Nat.zero_le _, rfl, rfl, l0, l1, fun h => ⟨h, by simp⟩⟩
  case round =>
    obtain ⟨r, j, hj, rfl, rfl, r0, r1, hq⟩ := hrel
    have HQ := Lib.hid hq
    clear hq
    by_cases hlt : j < n
    · have hxl : j < xs.length := by rw [HN.out]; exact hlt
      obtain ⟨b, off, eA, hbB, hc⟩ := HX.out (by omega)
      obtain ⟨x, hx⟩ : ∃ x, x = xs[j] := ⟨_, rfl⟩
      have hcx : w.cell? ⟨b, off + j, none⟩ = some (.int .i64 x) := hc j x (by rw [hx]; exact List.getElem?_eq_getElem hxl)
      obtain ⟨x0, x1⟩ := HP.out x (by rw [hx]; exact List.getElem_mem hxl)
      have HTK : Hid (xs.take (j + 1) = xs.take j ++ [x]) := Lib.hid (by rw [List.take_succ_eq_append_getElem hxl, hx])
      clear hc hx
      subst eA
      by_cases hneg : r < 0
      · go_wp2_with fail
        go_ret
        exact ⟨⟨-1, rfl, by omega, by omega, fun h => by omega⟩, rfl⟩
      · have hpos : 0 ≤ r := by omega
        clear hneg
        by_cases hbig : r < x
        · go_wp2_with fail
          go_ret
          exact ⟨⟨-1, rfl, by omega, by omega, fun h => by omega⟩, rfl⟩
        · have hsm : x ≤ r := by omega
          have HN2 : Hid (0 ≤ r - x → 0 ≤ left ∧ ∀ y ∈ xs.take (j + 1), y ≤ 8000) := Lib.hid (fun _ => by
            obtain ⟨q1, q2⟩ := HQ.out hpos
            refine ⟨q1, fun y hy => ?_⟩
            rw [HTK.out] at hy
            rcases List.mem_append.1 hy with hy | hy
            · exact q2 y hy
            · have := List.mem_singleton.1 hy; omega)
          clear hbig x1
          go_wp2_with fail
          go_round
          case rel => exact ⟨r - x, j + 1, by omega, by go_num, rfl, by omega, by omega, HN2.out⟩
          case measure => simp [intOf]; omega
    · obtain rfl : j = n := by omega
      have HF : Hid (0 ≤ r → 0 ≤ left ∧ ∀ x ∈ xs, x ≤ 8000) := Lib.hid (fun h => by
        obtain ⟨q1, q2⟩ := HQ.out h
        refine ⟨q1, ?_⟩
        rw [List.take_of_length_le (by rw [HN.out]; exact Nat.le_refl _)] at q2
        exact q2)
      go_wp2_with fail
      go_ret
      exact ⟨⟨r, rfl, r0, r1, HF.out⟩, rfl⟩

theorem ints_one12 {W : World} {b : Nat} {x : Int} (h0 : W.cell? ⟨b, 0, none⟩ = some (.int .i64 x)) : IntsD W (some ⟨b, 0, none⟩) [x] := by
  intro _
  refine ⟨b, 0, rfl, World.block_lt_of_cell? W _ h0, fun i z hz => ?_⟩
  match i, hz with
  | 0, hz => injection hz with hz; rw [← hz]; exact h0
/-- Few and short. -/
def Op12.light (d : Op12) : Prop := d.s.size ≤ 8000
def LightSays12 (ds : List Op12) (e : Ending) : Prop := ∃ r : Bool, e = .returned (.bool r) ∧ (r = true → ds.length ≤ 40 ∧ ∀ d ∈ ds, d.light)
set_option maxRecDepth 100000 in
set_option maxHeartbeats 4000000 in
theorem light12_any (A : Option Addr) (n c : Nat) (ds : List Op12) (w0 w : World) (hA : Acts12In w0 A n c ds) (hb0 : Below w0.heap.size w0 w) :
    Calls Tryz.prog 33 #[.slice A n c] w fun e w' => LightSays12 ds e ∧ Below w.heap.size w w' := by
  have hA1 : Acts12 w w0.heap.size A ds := hA.lie.below hb0.size hb0
  have HA := Lib.hid hA1
  have HBB := Lib.hid hb0.size
  have hn := hA.few
  have EN := Lib.hid hA.len
  clear hA hA1 hb0
  have hnI : (n : Int) ≤ 9223372036854775807 := by omega
  go_enter Tryz.func33, Tryz.ntmps33
  go_wp2_with fail
  go_loopw [3, 4] (fun v i wr => ∃ (r : Int) (j : Nat), j ≤ 100 ∧ j ≤ n ∧ i = .int .i64 j ∧ v = .int .i64 r ∧ -1 ≤ r ∧ r ≤ 8000 ∧ Below w.heap.size w wr ∧ (0 ≤ r → ∀ d ∈ ds.take j, d.light)) (fun _ i _ => 100 - (intOf i).toNat)
  case atStart => exact ⟨8000, 0, by omega, by omega, rfl, rfl, by omega, by omega, Below.refl _ _, fun _ => by simp⟩
  case round =>
    obtain ⟨r, j, hj, hjn, rfl, rfl, r0, r1, hbr, hli⟩ := hrel
    have HLI := Lib.hid hli
    have HBR := Lib.hid hbr
    clear hli
    by_cases hgo : j < n ∧ j < 100 ∧ 0 ≤ r
    · obtain ⟨hlt, hj1, hr0⟩ := hgo
      have hxl : j < ds.length := by rw [EN.out]; exact hlt
      obtain ⟨b, off, eA, hbw0, hbB, hc⟩ := HA.out (by omega)
      obtain ⟨x, hx⟩ : ∃ x, x = ds[j] := ⟨_, rfl⟩
      obtain ⟨-, -, -, -, -, q2, -, hin⟩ := hc j x (by rw [hx]; exact List.getElem?_eq_getElem hxl)
      have HTK : Hid (ds.take (j + 1) = ds.take j ++ [x]) := Lib.hid (by rw [List.take_succ_eq_append_getElem hxl, hx])
      have k2 := (hbr.cell (p := ⟨b, off + j * 7 + 5, none⟩) hbw0).trans q2
      have hbw : b < wr.heap.size := Nat.lt_of_lt_of_le hbw0 hbr.size
      obtain ⟨s, hs⟩ : ∃ s, s = x.s := ⟨_, rfl⟩
      have hsf := hin.sfew
      rw [← hs] at hsf k2
      have HS := Lib.hid hs
      clear hc hx q2 hin hbw0 hbB hs
      subst eA
      have HROOM : Hid (∀ W : World, W.cell? ⟨wr.heap.size, 0, none⟩ = some (.int .i64 s.size) →
          Calls Tryz.prog 48 #[.int .i64 r, .slice (some ⟨wr.heap.size, 0, none⟩) 1 1] W fun e w' => (∃ q : Int, e = .returned (.int .i64 q) ∧ -1 ≤ q ∧ q ≤ 8000 ∧ (0 ≤ q → s.size ≤ 8000)) ∧ W = w') := Lib.hid (by
        intro W h0
        refine (room12_any r _ 1 1 [(s.size : Int)] W rfl (ints_one12 h0) ⟨r0, r1⟩ ?_ (by omega)).mono ?_
        · intro y hy
          have := List.mem_singleton.1 hy
          subst this
          exact ⟨by omega, by omega⟩
        · rintro e w' ⟨⟨q, rfl, q0, q1, q2⟩, rfl⟩
          refine ⟨⟨q, rfl, q0, q1, fun h => ?_⟩, rfl⟩
          have h3 := (q2 h).2
          have a1 := h3 s.size (by simp)
          omega)
      have hjI : (j : Int) < 100 := by omega
      have hjnI : (j : Int) < (n : Int) := by omega
      clear hbr
      go_wp2_with fail
      refine (HROOM.out _ (by simp [go_sem])).mono ?_
      rintro e w1 ⟨⟨r', rfl, s0, s1, s2⟩, rfl⟩
      have HS2 := Lib.hid s2
      have HB2 : Hid (Below w.heap.size w (wr.alloc (.cells #[.int .i64 s.size] 3))) := Lib.hid (HBR.out.alloc HBR.out.size _)
      have HN2 : Hid (0 ≤ r' → ∀ d ∈ ds.take (j + 1), d.light) := Lib.hid (fun h => by
        have a1 := HS2.out h
        intro d hd
        rw [HTK.out] at hd
        rcases List.mem_append.1 hd with hd | hd
        · exact HLI.out hr0 d hd
        · have := List.mem_singleton.1 hd
          subst this
          show d.s.size ≤ 8000
          rw [← HS.out]; exact a1)
      clear k2 s2
      go_wp2_with fail
      go_roundw
      case rel => exact ⟨r', j + 1, by omega, by omega, by go_num, rfl, s0, s1, HB2.out, HN2.out⟩
      case measure => simp [intOf]; omega
    · have HANS : Hid (0 ≤ r → n ≤ 40 → ∀ d ∈ ds, d.light) := Lib.hid (fun h1 h2 => by
        have e : j = n := by
          rcases Nat.lt_or_ge j n with h' | h'
          · exact absurd ⟨h', by omega, h1⟩ hgo
          · omega
        have h3 := HLI.out h1
        rw [e, ← EN.out, List.take_length] at h3
        exact h3)
      have hex : ((j : Int) < (n : Int) ∧ (j : Int) < 100 ∧ r < 0) ∨ ((j : Int) < (n : Int) ∧ j = 100) ∨ j = n := by
        rcases Nat.lt_or_ge j n with h' | h'
        · rcases Nat.lt_or_ge j 100 with h2 | h2
          · left
            refine ⟨by omega, by omega, ?_⟩
            rcases Int.lt_or_le r 0 with h | h
            · exact h
            · exact absurd ⟨h', h2, h⟩ hgo
          · right; left; exact ⟨by omega, by omega⟩
        · right; right; omega
      clear hgo hbr
      by_cases h40 : n ≤ 40
      · have h40I : (n : Int) ≤ 40 := by omega
        by_cases hr0 : 0 ≤ r
        · have HT := Lib.hid (HANS.out hr0 h40)
          rcases hex with ⟨h1, h2, h3⟩ | ⟨h1, h2⟩ | rfl
          · omega
          · omega
          · go_wp2_with fail
            go_ret
            exact ⟨⟨true, rfl, fun _ => ⟨by rw [EN.out]; exact h40, HT.out⟩⟩, HBR.out⟩
        · have hr1 : r < 0 := by omega
          rcases hex with ⟨h1, h2, h3⟩ | ⟨h1, h2⟩ | rfl
          · go_wp2_with fail
            go_ret
            exact ⟨⟨false, rfl, fun h => by cases h⟩, HBR.out⟩
          · omega
          · go_wp2_with fail
            go_ret
            exact ⟨⟨false, rfl, fun h => by cases h⟩, HBR.out⟩
      · have h40I : ¬ (n : Int) ≤ 40 := by omega
        have h40J : (40 : Int) < (n : Int) := by omega
        rcases hex with ⟨h1, h2, h3⟩ | ⟨h1, rfl⟩ | rfl
        · go_wp2_with fail
          go_ret
          exact ⟨⟨false, rfl, fun h => by cases h⟩, HBR.out⟩
        · go_wp2_with fail
          go_ret
          exact ⟨⟨false, rfl, fun h => by cases h⟩, HBR.out⟩
        · by_cases h200 : j < 100
          · have h2I : (j : Int) < 100 := by omega
            go_wp2_with fail
            go_ret
            exact ⟨⟨false, rfl, fun h => by cases h⟩, HBR.out⟩
          · go_wp2_with fail
            go_ret
            exact ⟨⟨false, rfl, fun h => by cases h⟩, HBR.out⟩
set_option maxRecDepth 100000 in
set_option maxHeartbeats 1000000 in
theorem need12_any (n : Int) (w : World) (hn : n ≤ 1099511627776) : Calls Tryz.prog 38 #[.int .i64 n] w fun e w' => e = .returned (.int .i64 (needI n)) ∧ w' = w := by
  by_cases h0 : n < 0
  · have e : needI n = 0 := if_pos h0
    rw [e]
    clear e
    go_enter Tryz.func38, Tryz.ntmps38
    go_wp2_with fail
    go_ret
    exact ⟨rfl, rfl⟩
  · obtain ⟨z, hz⟩ : ∃ z, z = needI n := ⟨_, rfl⟩
    rw [← hz]
    have v1 : IntKind.i64.wrap (n + 236) = n + 236 := by rw [IntKind.wrap_i64]; omega
    have v2 : IntKind.i64.wrap (n + 236 - 1) = n + 235 := by rw [IntKind.wrap_i64]; omega
    obtain ⟨u, hu⟩ : ∃ u : Int, u = (n + 235) / 236 := ⟨_, rfl⟩
    have v3 : (n + 235).tdiv 236 = u := by rw [Int.tdiv_eq_ediv_of_nonneg (by omega), hu]
    have v3' : (n + 235) / 236 = u := hu.symm
    have v4 : IntKind.i64.wrap u = u := by rw [IntKind.wrap_i64]; omega
    have v5 : max u 1 = z := by
      rw [hu, hz]
      unfold needI needN
      rw [if_neg h0]
      split <;> omega
    clear hz hu
    go_enter Tryz.func38, Tryz.ntmps38
    go_wp2_with fail
    go_ret
    exact ⟨rfl, rfl⟩
end Go.Proofs.YtnamokngiebicaaGreatDoor
