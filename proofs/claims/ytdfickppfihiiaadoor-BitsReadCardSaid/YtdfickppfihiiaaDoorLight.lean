/-
  'Are acts few and short enough?': whatever it answers, it answers, and nothing that was there turns.
-/
import Derived.Test.YtdfickppfihiiaaDoorAlive
import Derived.Deep.RegionHeld3
import Derived.Deep.RegionWith
namespace Go.Proofs.YtdfickppfihiiaaDoor
open Go.RowKit

/-- One act as it lies in memory: two numbers, a list of numbers of which the length alone matters, a list of texts. -/
structure OpD where
  kind : Int
  n : Int
  la : Option Addr
  ln : Nat
  lc : Nat
  ta : Option Addr
  tc : Nat
  ts : List ByteArray
/-- The four cells of an act. -/
def OpD.at_ (d : OpD) (w : World) (b off : Nat) : Prop :=
  w.cell? ⟨b, off, none⟩ = some (.int .i64 d.kind) ∧ w.cell? ⟨b, off + 1, none⟩ = some (.int .i64 d.n) ∧
  w.cell? ⟨b, off + 2, none⟩ = some (.slice d.la d.ln d.lc) ∧ w.cell? ⟨b, off + 3, none⟩ = some (.slice d.ta d.ts.length d.tc)
/-- A list of acts as a slice: nil, empty or not. -/
def Acts (w : World) (B : Nat) (A : Option Addr) (ds : List OpD) : Prop :=
  0 < ds.length → ∃ b off, A = some ⟨b, off, none⟩ ∧ b < B ∧ ∀ (j : Nat) (d : OpD), ds[j]? = some d → d.at_ w b (off + j * 4) ∧ Txts w B d.ta d.ts
/-- Numbers and lengths that are ints. -/
def OpD.fits (d : OpD) : Prop :=
  (-9223372036854775808 ≤ d.kind ∧ d.kind ≤ 9223372036854775807) ∧ (-9223372036854775808 ≤ d.n ∧ d.n ≤ 9223372036854775807) ∧ d.ln ≤ 9223372036854775807 ∧ d.ts.length ≤ 9223372036854775807 ∧ ∀ t ∈ d.ts, t.size ≤ 9223372036854775807
theorem OpD.at_.below {d : OpD} {w w' : World} {b off B : Nat} (h : d.at_ w b off) (hb : Below B w w') (hB : b < B) : d.at_ w' b off := by
  obtain ⟨h0, h1, h2, h3⟩ := h
  exact ⟨(hb.cell (p := ⟨b, off, none⟩) hB).trans h0, (hb.cell (p := ⟨b, off + 1, none⟩) hB).trans h1, (hb.cell (p := ⟨b, off + 2, none⟩) hB).trans h2, (hb.cell (p := ⟨b, off + 3, none⟩) hB).trans h3⟩

set_option maxRecDepth 100000 in
set_option maxHeartbeats 1000000 in
/-- Room: a number no greater than it was, or -1. -/
theorem room_any (left : Int) (A : Option Addr) (n c : Nat) (xs : List Int) (w : World) (hn : xs.length = n) (hx : Ints w w.heap.size A xs) (hl : -1 ≤ left ∧ left ≤ 20000) (hp : ∀ x ∈ xs, 0 ≤ x ∧ x ≤ 9223372036854775807) (hm : n ≤ 100) :
    Calls Tryd.prog 35 #[.int .i64 left, .slice A n c] w fun e w' => (∃ r : Int, e = .returned (.int .i64 r) ∧ -1 ≤ r ∧ r ≤ 20000) ∧ w = w' := by
  have HX := Lib.hid hx
  have HP := Lib.hid hp
  have HN := Lib.hid hn
  clear hx hp hn
  obtain ⟨l0, l1⟩ := hl
  go_enter Tryd.func35, Tryd.ntmps35
  go_wp2_with fail
  go_loop [0, 5] (fun v i => ∃ (r : Int) (j : Nat), j ≤ n ∧ i = .int .i64 j ∧ v = .int .i64 r ∧ -1 ≤ r ∧ r ≤ 20000) (fun _ i => n - (intOf i).toNat)
  case atStart => exact ⟨left, 0, Nat.zero_le _, rfl, rfl, l0, l1⟩
  case round =>
    obtain ⟨r, j, hj, rfl, rfl, r0, r1⟩ := hrel
    by_cases hlt : j < n
    · have hxl : j < xs.length := by rw [HN.out]; exact hlt
      obtain ⟨b, off, eA, hbB, hc⟩ := HX.out (by omega)
      obtain ⟨x, hx⟩ : ∃ x, x = xs[j] := ⟨_, rfl⟩
      have hcx : w.cell? ⟨b, off + j, none⟩ = some (.int .i64 x) := hc j x (by rw [hx]; exact List.getElem?_eq_getElem hxl)
      obtain ⟨x0, x1⟩ := HP.out x (by rw [hx]; exact List.getElem_mem hxl)
      clear hc hx
      subst eA
      by_cases hneg : r < 0
      · go_wp2_with fail
        go_ret
        exact ⟨⟨-1, rfl, by omega, by omega⟩, rfl⟩
      · have hpos : 0 ≤ r := by omega
        clear hneg
        by_cases hbig : r < x
        · go_wp2_with fail
          go_ret
          exact ⟨⟨-1, rfl, by omega, by omega⟩, rfl⟩
        · have hsm : x ≤ r := by omega
          clear hbig x1
          go_wp2_with fail
          go_round
          case rel => exact ⟨r - x, j + 1, by omega, by go_num, rfl, by omega, by omega⟩
          case measure => simp [intOf]; omega
    · obtain rfl : j = n := by omega
      go_wp2_with fail
      go_ret
      exact ⟨⟨r, rfl, r0, r1⟩, rfl⟩

/-- Some truth value. -/
def SomeBool (e : Ending) : Prop := ∃ r : Bool, e = .returned (.bool r)
theorem someBool (r : Bool) : SomeBool (.returned (.bool r)) := ⟨r, rfl⟩

set_option maxRecDepth 100000 in
set_option maxHeartbeats 4000000 in
theorem light_any (A : Option Addr) (c : Nat) (ds : List OpD) (w : World) (hA : Acts w w.heap.size A ds) (hf : ∀ d ∈ ds, d.fits) (hn : ds.length ≤ 9223372036854775807) :
    Calls Tryd.prog 9 #[.slice A ds.length c] w fun e w' => SomeBool e ∧ Below w.heap.size w w' := by
  have HA := Lib.hid hA
  have HF := Lib.hid hf
  obtain ⟨n, en⟩ : ∃ n, n = ds.length := ⟨_, rfl⟩
  rw [← en] at hn ⊢
  have EN := Lib.hid en
  clear hA hf en
  have HNN := Lib.hid hn
  clear hn
  go_enter Tryd.func9, Tryd.ntmps9
  go_wp2_with fail
  go_loopw [3, 4] (fun v i wr => ∃ (r : Int) (j : Nat), j ≤ 100 ∧ i = .int .i64 j ∧ v = .int .i64 r ∧ -1 ≤ r ∧ r ≤ 20000 ∧ Below w.heap.size w wr) (fun _ i _ => 100 - (intOf i).toNat)
  case atStart => exact ⟨20000, 0, by omega, rfl, rfl, by omega, by omega, Below.refl _ _⟩
  case round =>
    obtain ⟨r, j, hj, rfl, rfl, r0, r1, hbr⟩ := hrel
    by_cases hlt : j < n
    · by_cases hj1 : j < 100
      · by_cases hr0 : 0 ≤ r
        · have hxl : j < ds.length := by rw [← EN.out]; exact hlt
          obtain ⟨b, off, eA, hbB, hc⟩ := HA.out (by omega)
          obtain ⟨x, hx⟩ : ∃ x, x = ds[j] := ⟨_, rfl⟩
          obtain ⟨⟨a0, a1, a2, a3⟩, htx⟩ := hc j x (by rw [hx]; exact List.getElem?_eq_getElem hxl)
          have hfx := HF.out x (by rw [hx]; exact List.getElem_mem hxl)
          have k2 : wr.cell? ⟨b, off + j * 4 + 2, none⟩ = some (.slice x.la x.ln x.lc) := (hbr.cell (p := ⟨b, off + j * 4 + 2, none⟩) hbB).trans a2
          have k3 : wr.cell? ⟨b, off + j * 4 + 3, none⟩ = some (.slice x.ta x.ts.length x.tc) := (hbr.cell (p := ⟨b, off + j * 4 + 3, none⟩) hbB).trans a3
          have HTX := Lib.hid htx
          have HFX := Lib.hid hfx
          have KW3 := Lib.hid a3
          clear hc hx a0 a1 a2 a3 htx hfx
          subst eA
          have hroom : ∀ W : World, W.cell? ⟨wr.heap.size, 0, none⟩ = some (.int .i64 x.ln) → W.cell? ⟨wr.heap.size, 1, none⟩ = some (.int .i64 x.ts.length) →
              Calls Tryd.prog 35 #[.int .i64 r, .slice (some ⟨wr.heap.size, 0, none⟩) 2 2] W fun e w' => (∃ r : Int, e = .returned (.int .i64 r) ∧ -1 ≤ r ∧ r ≤ 20000) ∧ W = w' := by
            intro W h0 h1
            have hf := HFX.out
            refine room_any r _ 2 2 [(x.ln : Int), (x.ts.length : Int)] W rfl ?_ ⟨by omega, r1⟩ ?_ (by omega)
            · intro _
              refine ⟨wr.heap.size, 0, rfl, World.block_lt_of_cell? W _ h0, fun i y hy => ?_⟩
              match i, hy with
              | 0, hy => injection hy with hy; rw [← hy]; exact h0
              | 1, hy => injection hy with hy; rw [← hy]; exact h1
            · intro y hy
              simp only [List.mem_cons, List.mem_nil_iff, or_false] at hy
              rcases hy with rfl | rfl
              · exact ⟨by omega, by have := hf.2.2.1; omega⟩
              · exact ⟨by omega, by have := hf.2.2.2.1; omega⟩
          have hbw : b < wr.heap.size := by have := hbr.size; omega
          have HK : Hid (∀ o : Obj, (wr.alloc o).drew.cell? ⟨b, off + j * 4 + 2, none⟩ = some (.slice x.la x.ln x.lc) ∧ (wr.alloc o).drew.cell? ⟨b, off + j * 4 + 3, none⟩ = some (.slice x.ta x.ts.length x.tc)) :=
            Lib.hid fun o => ⟨(World.cell?_alloc_lt wr o ⟨b, off + j * 4 + 2, none⟩ hbw).trans k2, (World.cell?_alloc_lt wr o ⟨b, off + j * 4 + 3, none⟩ hbw).trans k3⟩
          have HROOM := Lib.hid hroom
          clear hroom
          go_wp2_with fail
          go_region_held3 (fun w' => w'.cell? ⟨b, off + j * 4 + 2, none⟩ = some (.slice x.la x.ln x.lc) ∧ w'.cell? ⟨b, off + j * 4 + 3, none⟩ = some (.slice x.ta x.ts.length x.tc)) (first | exact ⟨k2, k3⟩ | exact HK.out _)
            (first | (go_at_call 35; refine (HROOM.out _ (by simp [go_sem]) (by simp [go_sem])).mono ?_; rintro e w1 ⟨⟨r', rfl, s0, s1⟩, rfl⟩))
          have hb2 : Below w.heap.size w (wr.alloc (.cells #[.int .i64 x.ln, .int .i64 x.ts.length] 3)).drew := (hbr.alloc hbr.size _).drew
          have HB2 := Lib.hid hb2
          obtain ⟨m, em⟩ : ∃ m, m = x.ts.length := ⟨_, rfl⟩
          have EM := Lib.hid em
          have HM := Lib.hid (show m ≤ 9223372036854775807 by rw [em]; exact HFX.out.2.2.2.1)
          clear hb2 em k2 k3 hbw
          go_wp2_with fail
          go_loopw [3, 5] (fun v i wi => ∃ (r : Int) (k : Nat), k ≤ x.ts.length ∧ i = .int .i64 k ∧ v = .int .i64 r ∧ -1 ≤ r ∧ r ≤ 20000 ∧ Below w.heap.size w wi) (fun _ i _ => x.ts.length - (intOf i).toNat)
          case atStart => exact ⟨r', 0, Nat.zero_le _, rfl, rfl, s0, s1, HB2.out⟩
          case round =>
            obtain ⟨q, k, hk, rfl, rfl, q0, q1, hbi⟩ := hrel
            have k3 := (hbi.cell (p := ⟨b, off + j * 4 + 3, none⟩) hbB).trans KW3.out
            by_cases hkl : k < x.ts.length
            · by_cases hq0 : 0 ≤ q
              · obtain ⟨tb, toff, eT, htB, hct⟩ := HTX.out (by omega)
                obtain ⟨t, ht⟩ : ∃ t, t = x.ts[k] := ⟨_, rfl⟩
                have hcx := (hbi.cell (p := ⟨tb, toff + k, none⟩) htB).trans (hct k t (by rw [ht]; exact List.getElem?_eq_getElem hkl))
                have hts : t.size ≤ 9223372036854775807 := HFX.out.2.2.2.2 t (by rw [ht]; exact List.getElem_mem hkl)
                rw [eT] at k3
                have HTS := Lib.hid hts
                have hkb : x.ts.length ≤ 9223372036854775807 := HFX.out.2.2.2.1
                clear hct ht hts eT
                go_wp2_with fail
                with_reducible refine (room_any q (some ⟨wr.heap.size, 0, none⟩) 1 1 [(t.size : Int)] _ rfl ?_ ⟨by omega, q1⟩ ?_ (by omega)).mono ?_
                · exact ints_at _ _ _ _ rfl rfl
                · intro y hy
                  simp only [List.mem_cons, List.mem_nil_iff, or_false] at hy
                  subst hy
                  exact ⟨by omega, by have := HTS.out; omega⟩
                rintro e w1 ⟨⟨q', rfl, t0, t1⟩, rfl⟩
                have hb3 := hbi.alloc hbi.size (.cells #[.int .i64 t.size] 3)
                clear k3 hcx hbi
                go_wp2_with fail
                go_roundw
                case rel => exact ⟨q', k + 1, by omega, by go_num, rfl, t0, t1, hb3⟩
                case measure => simp [intOf]; omega
              · go_wp2_with fail
                go_roundw
                case rel => exact ⟨q, j + 1, by omega, by go_num, rfl, q0, q1, hbi⟩
                case measure => simp [intOf]; omega
            · go_wp2_with fail
              go_roundw
              case rel => exact ⟨q, j + 1, by omega, by go_num, rfl, q0, q1, hbi⟩
              case measure => simp [intOf]; omega
        · go_wp2_with fail
          all_goals
            go_ret
            exact ⟨someBool _, hbr⟩
      · go_wp2_with fail
        all_goals
          go_ret
          exact ⟨someBool _, hbr⟩
    · go_wp2_with fail
      all_goals
        go_ret
        exact ⟨someBool _, hbr⟩
end Go.Proofs.YtdfickppfihiiaaDoor
