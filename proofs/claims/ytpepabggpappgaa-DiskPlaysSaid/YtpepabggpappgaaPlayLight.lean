/-
  'Are acts few and short enough?': if it says so, they are. No statement is proved here.
-/
import Derived.Test.YtpepabggpappgaaPlayPure
import Derived.Deep.RegionHeld3
import Derived.Deep.RegionWith
namespace Go.Proofs.Ytpepabggpappgaa
open Go.RowKit

/-- The five cells of an act. -/
def OpD.at_ (d : OpD) (w : World) (b off : Nat) : Prop :=
  w.cell? ⟨b, off, none⟩ = some (.int .i64 d.kind) ∧ w.cell? ⟨b, off + 1, none⟩ = some (.int .i64 d.a) ∧ w.cell? ⟨b, off + 2, none⟩ = some (.slice d.wa d.w.length d.wc) ∧
  w.cell? ⟨b, off + 3, none⟩ = some (.bool d.own) ∧ w.cell? ⟨b, off + 4, none⟩ = some (.slice d.la d.l.length d.lc)
/-- A list of acts as a slice below B: nil, empty or not. -/
def Acts (w : World) (B : Nat) (A : Option Addr) (ds : List OpD) : Prop :=
  0 < ds.length → ∃ b off, A = some ⟨b, off, none⟩ ∧ b < B ∧ b < w.heap.size ∧ ∀ (j : Nat) (d : OpD), ds[j]? = some d → d.at_ w b (off + j * 5) ∧ d.In w B
structure OpD.Fits (d : OpD) : Prop where
  kind : -9223372036854775808 ≤ d.kind ∧ d.kind ≤ 9223372036854775807
  a : -9223372036854775808 ≤ d.a ∧ d.a ≤ 9223372036854775807
  w : d.w.length ≤ 9223372036854775807
  l : d.l.length ≤ 9223372036854775807
  data : ∀ x ∈ d.w, x.2.size ≤ 9223372036854775807
theorem OpD.at_.keep {d : OpD} {w w' : World} {b off : Nat} {O : List Nat} (h : d.at_ w b off) (hk : Keep O w w') (hb : b < w.heap.size) (hO : b ∉ O) : d.at_ w' b off := by
  obtain ⟨h0, h1, h2, h3, h4⟩ := h
  have hh := hk.block b hb hO
  exact ⟨(World.cell?_of_block (a := ⟨b, off, none⟩) hh).trans h0, (World.cell?_of_block (a := ⟨b, off + 1, none⟩) hh).trans h1, (World.cell?_of_block (a := ⟨b, off + 2, none⟩) hh).trans h2, (World.cell?_of_block (a := ⟨b, off + 3, none⟩) hh).trans h3, (World.cell?_of_block (a := ⟨b, off + 4, none⟩) hh).trans h4⟩
theorem Acts.keep {w w' : World} {B : Nat} {A : Option Addr} {ds : List OpD} {O : List Nat} (h : Acts w B A ds) (hk : Keep O w w') (hO : ∀ b ∈ O, B ≤ b) : Acts w' B A ds := fun hp => by
  obtain ⟨b, off, e, h1, h2, h3⟩ := h hp
  exact ⟨b, off, e, h1, Nat.lt_of_lt_of_le h2 hk.size, fun j d hd => ⟨(h3 j d hd).1.keep hk h2 (fun hm => by have := hO b hm; omega), (h3 j d hd).2.keep hk hO⟩⟩

set_option maxRecDepth 100000 in
set_option maxHeartbeats 1000000 in
/-- Room: what is left, or -1. -/
theorem room7_any (left : Int) (A : Option Addr) (n c : Nat) (xs : List Int) (w : World) (hn : xs.length = n) (hx : Ints w A xs) (hl : -1 ≤ left ∧ left ≤ 6000) (hp : ∀ x ∈ xs, 0 ≤ x ∧ x ≤ 9223372036854775807) (hm : n ≤ 100) :
    Calls Try.prog 12 #[.int .i64 left, .slice A n c] w fun e w' => (∃ r : Int, e = .returned (.int .i64 r) ∧ -1 ≤ r ∧ r ≤ 6000 ∧ (0 ≤ r → 0 ≤ left ∧ ∀ x ∈ xs, x ≤ 6000)) ∧ w = w' := by
  have HX := Lib.hid hx
  have HP := Lib.hid hp
  have HN := Lib.hid hn
  clear hx hp hn
  obtain ⟨l0, l1⟩ := hl
  go_enter Try.func12, Try.ntmps12
  go_wp2_with fail
  go_loop [0, 5] (fun v i => ∃ (r : Int) (j : Nat), j ≤ n ∧ i = .int .i64 j ∧ v = .int .i64 r ∧ -1 ≤ r ∧ r ≤ 6000 ∧ (0 ≤ r → 0 ≤ left ∧ ∀ x ∈ xs.take j, x ≤ 6000)) (fun _ i => n - (intOf i).toNat)
  case atStart => exact ⟨left, 0, Nat.zero_le _, rfl, rfl, l0, l1, fun h => ⟨h, by simp⟩⟩
  case round =>
    obtain ⟨r, j, hj, rfl, rfl, r0, r1, hq⟩ := hrel
    have HQ := Lib.hid hq
    clear hq
    by_cases hlt : j < n
    · have hxl : j < xs.length := by rw [HN.out]; exact hlt
      obtain ⟨b, off, eA, hbB, hc⟩ := HX.out (by omega)
      obtain ⟨x, hx⟩ : ∃ x, x = xs[j] := ⟨_, rfl⟩
      have hcx : w.cell? ⟨b, off + j, none⟩ = some (.int .i64 x) := hc j x (by rw [hx]; exact List.getElem?_eq_getElem hxl)
      obtain ⟨x0, x1⟩ := HP.out x (by rw [hx]; exact List.getElem_mem hxl)
      have HTK : Hid (xs.take (j + 1) = xs.take j ++ [x]) := Lib.hid (by rw [List.take_succ_eq_append_getElem hxl, hx])
      clear hc hx
      subst eA
      by_cases hneg : r < 0
      · go_wp2_with fail
        go_ret
        exact ⟨⟨-1, rfl, by omega, by omega, fun h => by omega⟩, rfl⟩
      · have hpos : 0 ≤ r := by omega
        clear hneg
        by_cases hbig : r < x
        · go_wp2_with fail
          go_ret
          exact ⟨⟨-1, rfl, by omega, by omega, fun h => by omega⟩, rfl⟩
        · have hsm : x ≤ r := by omega
          have HN2 : Hid (0 ≤ r - x → 0 ≤ left ∧ ∀ y ∈ xs.take (j + 1), y ≤ 6000) := Lib.hid (fun _ => by
            obtain ⟨q1, q2⟩ := HQ.out hpos
            refine ⟨q1, fun y hy => ?_⟩
            rw [HTK.out] at hy
            rcases List.mem_append.1 hy with hy | hy
            · exact q2 y hy
            · have := List.mem_singleton.1 hy; omega)
          clear hbig x1
          go_wp2_with fail
          go_round
          case rel => exact ⟨r - x, j + 1, by omega, by go_num, rfl, by omega, by omega, HN2.out⟩
          case measure => simp [intOf]; omega
    · obtain rfl : j = n := by omega
      have HF : Hid (0 ≤ r → 0 ≤ left ∧ ∀ x ∈ xs, x ≤ 6000) := Lib.hid (fun h => by
        obtain ⟨q1, q2⟩ := HQ.out h
        refine ⟨q1, ?_⟩
        rw [List.take_of_length_le (by rw [HN.out]; exact Nat.le_refl _)] at q2
        exact q2)
      go_wp2_with fail
      go_ret
      exact ⟨⟨r, rfl, r0, r1, HF.out⟩, rfl⟩

theorem ints_two {W : World} {b : Nat} {x y : Int} (h0 : W.cell? ⟨b, 0, none⟩ = some (.int .i64 x)) (h1 : W.cell? ⟨b, 1, none⟩ = some (.int .i64 y)) : Ints W (some ⟨b, 0, none⟩) [x, y] := by
  intro _
  refine ⟨b, 0, rfl, World.block_lt_of_cell? W _ h0, fun i z hz => ?_⟩
  match i, hz with
  | 0, hz => injection hz with hz; rw [← hz]; exact h0
  | 1, hz => injection hz with hz; rw [← hz]; exact h1
theorem ints_1 {W : World} {b : Nat} {x : Int} (h0 : W.cell? ⟨b, 0, none⟩ = some (.int .i64 x)) : Ints W (some ⟨b, 0, none⟩) [x] := by
  intro _
  refine ⟨b, 0, rfl, World.block_lt_of_cell? W _ h0, fun i z hz => ?_⟩
  match i, hz with
  | 0, hz => injection hz with hz; rw [← hz]; exact h0

def LightSays (ds : List OpD) (e : Ending) : Prop := ∃ r : Bool, e = .returned (.bool r) ∧ (r = true → ds.length ≤ 40 ∧ ∀ d ∈ ds, d.light)
set_option maxRecDepth 100000 in
set_option maxHeartbeats 4000000 in
theorem light7_any (A : Option Addr) (c : Nat) (ds : List OpD) (B : Nat) (w : World) (hA : Acts w B A ds) (hf : ∀ d ∈ ds, d.Fits) (hn : ds.length ≤ 9223372036854775807) (hB : B ≤ w.heap.size) :
    Calls Try.prog 4 #[.slice A ds.length c] w fun e w' => LightSays ds e ∧ Below w.heap.size w w' := by
  have HA := Lib.hid hA
  have HF := Lib.hid hf
  have HBB := Lib.hid hB
  obtain ⟨n, en⟩ : ∃ n, n = ds.length := ⟨_, rfl⟩
  rw [← en] at hn ⊢
  have EN := Lib.hid en
  clear hA hf en hB
  have hnI : (n : Int) ≤ 9223372036854775807 := by omega
  go_enter Try.func4, Try.ntmps4
  go_wp2_with fail
  go_loopw [3, 4] (fun v i wr => ∃ (r : Int) (j : Nat), j ≤ 200 ∧ j ≤ n ∧ i = .int .i64 j ∧ v = .int .i64 r ∧ -1 ≤ r ∧ r ≤ 6000 ∧ Below w.heap.size w wr ∧ (0 ≤ r → ∀ d ∈ ds.take j, d.light)) (fun _ i _ => 200 - (intOf i).toNat)
  case atStart => exact ⟨6000, 0, by omega, by omega, rfl, rfl, by omega, by omega, Below.refl _ _, fun _ => by simp⟩
  case round =>
    obtain ⟨r, j, hj, hjn, rfl, rfl, r0, r1, hbr, hli⟩ := hrel
    have HLI := Lib.hid hli
    have HBR := Lib.hid hbr
    clear hli
    by_cases hgo : j < n ∧ j < 200 ∧ 0 ≤ r
    · obtain ⟨hlt, hj1, hr0⟩ := hgo
      have hxl : j < ds.length := by rw [← EN.out]; exact hlt
      obtain ⟨b, off, eA, hbB, hbw0, hc⟩ := HA.out (by omega)
      obtain ⟨x, hx⟩ : ∃ x, x = ds[j] := ⟨_, rfl⟩
      obtain ⟨hat, hin⟩ := hc j x (by rw [hx]; exact List.getElem?_eq_getElem hxl)
      have hfx := HF.out x (by rw [hx]; exact List.getElem_mem hxl)
      have HTK : Hid (ds.take (j + 1) = ds.take j ++ [x]) := Lib.hid (by rw [List.take_succ_eq_append_getElem hxl, hx])
      have HAT := Lib.hid hat
      have HIN := Lib.hid hin
      have HFX := Lib.hid hfx
      obtain ⟨-, -, k2, -, k4⟩ := hat.keep (O := []) (Keep.of_below hbr) hbw0 (by simp)
      have HBL := Lib.hid hbw0
      clear hc hx hat hin hfx hbw0
      subst eA
      obtain ⟨lw, hlw⟩ : ∃ lw, lw = x.w.length := ⟨_, rfl⟩
      obtain ⟨ll, hll⟩ : ∃ ll, ll = x.l.length := ⟨_, rfl⟩
      have HLW := Lib.hid hlw
      have HLL := Lib.hid hll
      rw [← hlw] at k2
      rw [← hll] at k4
      have hroom : ∀ W : World, W.cell? ⟨wr.heap.size, 0, none⟩ = some (.int .i64 lw) → W.cell? ⟨wr.heap.size, 1, none⟩ = some (.int .i64 ll) →
          Calls Try.prog 12 #[.int .i64 r, .slice (some ⟨wr.heap.size, 0, none⟩) 2 2] W fun e w' => (∃ q : Int, e = .returned (.int .i64 q) ∧ -1 ≤ q ∧ q ≤ 6000 ∧ (0 ≤ q → x.w.length ≤ 6000 ∧ x.l.length ≤ 6000)) ∧ W = w' := by
        intro W h0 h1
        have hf := HFX.out
        have e1 := HLW.out
        have e2 := HLL.out
        refine (room7_any r _ 2 2 [(lw : Int), (ll : Int)] W rfl (ints_two h0 h1) ⟨r0, r1⟩ ?_ (by omega)).mono ?_
        · intro y hy
          simp only [List.mem_cons, List.mem_nil_iff, or_false] at hy
          rcases hy with rfl | rfl
          · exact ⟨by omega, by have := hf.w; omega⟩
          · exact ⟨by omega, by have := hf.l; omega⟩
        · rintro e w' ⟨⟨q, rfl, q0, q1, q2⟩, rfl⟩
          refine ⟨⟨q, rfl, q0, q1, fun h => ?_⟩, rfl⟩
          have h3 := (q2 h).2
          have a1 := h3 lw (by simp)
          have a2 := h3 ll (by simp)
          omega
      have hbw : b < wr.heap.size := by have := hbr.size; have := HBL.out; omega
      have HK : Hid (∀ o : Obj, (wr.alloc o).drew.cell? ⟨b, off + j * 5 + 2, none⟩ = some (.slice x.wa lw x.wc) ∧ (wr.alloc o).drew.cell? ⟨b, off + j * 5 + 4, none⟩ = some (.slice x.la ll x.lc)) :=
        Lib.hid fun o => ⟨(World.cell?_alloc_lt wr o ⟨b, off + j * 5 + 2, none⟩ hbw).trans k2, (World.cell?_alloc_lt wr o ⟨b, off + j * 5 + 4, none⟩ hbw).trans k4⟩
      have HROOM := Lib.hid hroom
      have hjI : (j : Int) < 200 := by omega
      have hjnI : (j : Int) < (n : Int) := by omega
      clear hroom hlw hll hbr
      go_wp2_with fail
      go_region_held3 (fun w' => w'.cell? ⟨b, off + j * 5 + 2, none⟩ = some (.slice x.wa lw x.wc) ∧ w'.cell? ⟨b, off + j * 5 + 4, none⟩ = some (.slice x.la ll x.lc)) (first | exact ⟨k2, k4⟩ | exact HK.out _)
        (first | (go_at_call 12; refine (HROOM.out _ (by simp [go_sem]) (by simp [go_sem])).mono ?_; rintro e w1 ⟨⟨r', rfl, s0, s1, s2⟩, rfl⟩))
      have HS2 := Lib.hid s2
      have HB2 : Hid (Below w.heap.size w (wr.alloc (.cells #[.int .i64 lw, .int .i64 ll] 3)).drew) := Lib.hid (HBR.out.alloc HBR.out.size _).drew
      have HWI : Hid (0 ≤ r → ∀ d ∈ ds.take j, d.light) := HLI
      have HRR : Hid (0 ≤ r) := Lib.hid hr0
      have hlwb : (lw : Int) ≤ 9223372036854775807 := by have := HFX.out.w; have := HLW.out; omega
      clear k2 k4 hbw s2
      go_wp2_with fail
      go_loopw [3, 5] (fun v i wi => ∃ (q : Int) (k : Nat), k ≤ lw ∧ i = .int .i64 k ∧ v = .int .i64 q ∧ -1 ≤ q ∧ q ≤ 6000 ∧ Below w.heap.size w wi ∧ (0 ≤ q → 0 ≤ r' ∧ ∀ y ∈ x.w.take k, y.2.size ≤ 6000)) (fun _ i _ => lw - (intOf i).toNat)
      case atStart => exact ⟨r', 0, Nat.zero_le _, rfl, rfl, s0, s1, HB2.out, fun h => ⟨h, by simp⟩⟩
      case round =>
        obtain ⟨q, k, hk, rfl, rfl, q0, q1, hbi, hq⟩ := hrel
        have HQ := Lib.hid hq
        have HBI := Lib.hid hbi
        obtain ⟨-, -, k2, -, -⟩ := HAT.out.keep (O := []) (Keep.of_below hbi) HBL.out (by simp)
        rw [← HLW.out] at k2
        clear hq
        by_cases hin : k < lw ∧ 0 ≤ q
        · obtain ⟨hkl, hq0⟩ := hin
          have hkw : k < x.w.length := by rw [← HLW.out]; exact hkl
          obtain ⟨tb, toff, eT, htB, htw, hct⟩ := HIN.out.ws (by omega)
          obtain ⟨t, ht⟩ : ∃ t, t = x.w[k] := ⟨_, rfl⟩
          have hcx := (hbi.cell (p := ⟨tb, toff + k * 2 + 1, none⟩) htw).trans (hct k t (by rw [ht]; exact List.getElem?_eq_getElem hkw)).2
          have hts : t.2.size ≤ 9223372036854775807 := HFX.out.data t (by rw [ht]; exact List.getElem_mem hkw)
          have HTT : Hid (x.w.take (k + 1) = x.w.take k ++ [t]) := Lib.hid (by rw [List.take_succ_eq_append_getElem hkw, ht])
          rw [eT] at k2
          have HTS := Lib.hid hts
          have hkI : (k : Int) < (lw : Int) := by omega
          obtain ⟨ta, ts⟩ := t
          simp only at hcx
          clear hct ht hts eT hbi
          go_wp2_with fail
          with_reducible refine (room7_any q (some ⟨wr.heap.size, 0, none⟩) 1 1 [(ts.size : Int)] _ rfl ?_ ⟨q0, q1⟩ ?_ (by omega)).mono ?_
          · exact ints_1 (by simp [go_sem])
          · intro y hy
            have := List.mem_singleton.1 hy
            subst this
            have hts : ts.size ≤ 9223372036854775807 := HTS.out
            exact ⟨by omega, by omega⟩
          rintro e w1 ⟨⟨q', rfl, t0, t1, t2⟩, rfl⟩
          have HB3 : Hid (Below w.heap.size w (wr.alloc (.cells #[.int .i64 ts.size] 3))) := Lib.hid (HBI.out.alloc HBI.out.size _)
          have HN2 : Hid (0 ≤ q' → 0 ≤ r' ∧ ∀ y ∈ x.w.take (k + 1), y.2.size ≤ 6000) := Lib.hid (fun h => by
            obtain ⟨a1, a2⟩ := t2 h
            obtain ⟨a3, a4⟩ := HQ.out a1
            refine ⟨a3, fun y hy => ?_⟩
            rw [HTT.out] at hy
            rcases List.mem_append.1 hy with hy | hy
            · exact a4 y hy
            · have := List.mem_singleton.1 hy
              subst this
              have := a2 (ts.size : Int) (by simp)
              show ts.size ≤ 6000
              omega)
          clear k2 hcx t2
          go_wp2_with fail
          go_roundw
          case rel => exact ⟨q', k + 1, by omega, by go_num, rfl, t0, t1, HB3.out, HN2.out⟩
          case measure => simp [intOf]; omega
        · have HEND : Hid (0 ≤ q → ∀ d ∈ ds.take (j + 1), d.light) := Lib.hid (fun h => by
            have e : k = lw := by
              rcases Nat.lt_or_ge k lw with h' | h'
              · exact absurd ⟨h', h⟩ hin
              · omega
            obtain ⟨a1, a2⟩ := HQ.out h
            rw [e, HLW.out, List.take_length] at a2
            obtain ⟨a3, a4⟩ := HS2.out a1
            intro d hd
            rw [HTK.out] at hd
            rcases List.mem_append.1 hd with hd | hd
            · exact HWI.out HRR.out d hd
            · have := List.mem_singleton.1 hd
              subst this
              exact ⟨a3, a4, a2⟩)
          have hex : ((k : Int) < (lw : Int) ∧ q < 0) ∨ k = lw := by
            rcases Nat.lt_or_ge k lw with h' | h'
            · left
              refine ⟨by omega, ?_⟩
              rcases Int.lt_or_le q 0 with h | h
              · exact h
              · exact absurd ⟨h', h⟩ hin
            · right; omega
          clear hin hbi
          rcases hex with ⟨hx1, hx2⟩ | rfl
          · go_wp2_with fail
            go_roundw
            case rel => exact ⟨q, j + 1, by omega, by omega, by go_num, rfl, q0, q1, HBI.out, HEND.out⟩
            case measure => simp [intOf]; omega
          · go_wp2_with fail
            go_roundw
            case rel => exact ⟨q, j + 1, by omega, by omega, by go_num, rfl, q0, q1, HBI.out, HEND.out⟩
            case measure => simp [intOf]; omega
    · have HANS : Hid (0 ≤ r → n ≤ 40 → ∀ d ∈ ds, d.light) := Lib.hid (fun h1 h2 => by
        have e : j = n := by
          rcases Nat.lt_or_ge j n with h' | h'
          · exact absurd ⟨h', by omega, h1⟩ hgo
          · omega
        have h3 := HLI.out h1
        rw [e, EN.out, List.take_length] at h3
        exact h3)
      have hex : ((j : Int) < (n : Int) ∧ (j : Int) < 200 ∧ r < 0) ∨ ((j : Int) < (n : Int) ∧ j = 200) ∨ j = n := by
        rcases Nat.lt_or_ge j n with h' | h'
        · rcases Nat.lt_or_ge j 200 with h2 | h2
          · left
            refine ⟨by omega, by omega, ?_⟩
            rcases Int.lt_or_le r 0 with h | h
            · exact h
            · exact absurd ⟨h', h2, h⟩ hgo
          · right; left; exact ⟨by omega, by omega⟩
        · right; right; omega
      clear hgo hbr
      by_cases h40 : n ≤ 40
      · have h40I : (n : Int) ≤ 40 := by omega
        by_cases hr0 : 0 ≤ r
        · have HT := Lib.hid (HANS.out hr0 h40)
          rcases hex with ⟨h1, h2, h3⟩ | ⟨h1, h2⟩ | rfl
          · omega
          · omega
          · go_wp2_with fail
            go_ret
            exact ⟨⟨true, rfl, fun _ => ⟨by rw [← EN.out]; exact h40, HT.out⟩⟩, HBR.out⟩
        · have hr1 : r < 0 := by omega
          rcases hex with ⟨h1, h2, h3⟩ | ⟨h1, h2⟩ | rfl
          · go_wp2_with fail
            go_ret
            exact ⟨⟨false, rfl, fun h => by cases h⟩, HBR.out⟩
          · omega
          · go_wp2_with fail
            go_ret
            exact ⟨⟨false, rfl, fun h => by cases h⟩, HBR.out⟩
      · have h40I : ¬ (n : Int) ≤ 40 := by omega
        have h40J : (40 : Int) < (n : Int) := by omega
        rcases hex with ⟨h1, h2, h3⟩ | ⟨h1, rfl⟩ | rfl
        · go_wp2_with fail
          go_ret
          exact ⟨⟨false, rfl, fun h => by cases h⟩, HBR.out⟩
        · go_wp2_with fail
          go_ret
          exact ⟨⟨false, rfl, fun h => by cases h⟩, HBR.out⟩
        · by_cases h200 : j < 200
          · have h2I : (j : Int) < 200 := by omega
            go_wp2_with fail
            go_ret
            exact ⟨⟨false, rfl, fun h => by cases h⟩, HBR.out⟩
          · go_wp2_with fail
            go_ret
            exact ⟨⟨false, rfl, fun h => by cases h⟩, HBR.out⟩
end Go.Proofs.Ytpepabggpappgaa
