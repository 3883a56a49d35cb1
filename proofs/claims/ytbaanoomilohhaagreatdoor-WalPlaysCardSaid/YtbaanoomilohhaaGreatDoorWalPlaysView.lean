/-
  Acts on a Wal that came in as an argument. No statement is proved here.
-/
import Derived.Test.YtbaanoomilohhaaGreatDoorNums
import Derived.Test.YtbaanoomilohhaaGreatDoorViews
import Derived.Test.YtbaanoomilohhaaGreatDoorWalGo
import Derived.Deep.RegionHeld3
import Derived.Deep.RegionWith
import Derived.Deep.SlicePairs
import Derived.Deep.Slices
import Derived.Lib.SmallJoins
namespace Go.Proofs.YtbaanoomilohhaaGreatDoor
open Go.ChangeShapes Go.WideShapes Go.ChangeAt Go.RowKit
open Go.WideMaps Go.WideElems

theorem cellsIntV : Tryz.prog.cellsOf 3 = 1 := by kernel_rfl
/-- Numbers as they came in. -/
structure IntsV (w : World) (A : Option Addr) (m c : Nat) (l : List Int) : Prop where
  len : l.length = m
  lie : Ints w w.heap.size A l
  nil_ : A = none → m = 0 ∧ c = 0
  few : m ≤ 9223372036854775807
theorem view_ints {H : Type} {enc : TypeId × Value → H} {W : World} {a : Option Addr} {n c : Nat} {d : DataW H} {p : List MemPlace} (h : DataW.Trod enc Tryz.prog W 0 (fun _ => true) true 35 (.slice a n c) d p) :
    ∃ l : List Int, IntsV W a n c l := by
  obtain ⟨fuel, hf⟩ := h
  rcases open_ints Tryz.underlying35 Tryz.underlying3 cellsIntV hf with ⟨hcs, _⟩ | ⟨a', len, cap, zs, hcs, _, hl, hcap, hz, _, hc, hw⟩
  · simp [Value.cells] at hcs
    obtain ⟨rfl, rfl, rfl⟩ := hcs
    exact ⟨[], rfl, Ints.nil _ _ _, fun _ => ⟨rfl, rfl⟩, by omega⟩
  · simp [Value.cells] at hcs
    obtain ⟨rfl, rfl, rfl⟩ := hcs
    simp only [if_true] at hz
    have hmax : maxLen = 9223372036854775807 := rfl
    have hlen : (zs.take n).length = n := by rw [List.length_take]; omega
    refine ⟨zs.take n, hlen, ?_, (fun e => by cases e), by omega⟩
    intro hpos
    rw [hlen] at hpos
    obtain ⟨b, off, rfl, hb, hc'⟩ := plain_at hc (by omega)
    refine ⟨b, off, rfl, hb, fun j x hx => ?_⟩
    rw [List.getElem?_take] at hx
    split at hx
    · have := hc' j (by omega)
      rw [this, List.getD_eq_getElem?_getD, hx]
      rfl
    · cases hx
end Go.Proofs.YtbaanoomilohhaaGreatDoor

namespace Go.Proofs.YtbaanoomilohhaaGreatDoor
open Go.RowKit

/-- An act as it lies in memory. -/
structure Op9 where
  kind : Int
  a : Int
  wa : Option Addr
  wc : Nat
  w : List (Int × ByteArray)
  la : Option Addr
  lc : Nat
  l : List Int
def Op9.cells (d : Op9) : Array Value := #[.int .i64 d.kind, .int .i64 d.a, .slice d.wa d.w.length d.wc, .slice d.la d.l.length d.lc]
/-- Numbers below block B. -/
def Low9 (w : World) (B : Nat) (A : Option Addr) (l : List Int) : Prop :=
  0 < l.length → ∃ b off, A = some ⟨b, off, none⟩ ∧ b < B ∧ b < w.heap.size ∧ ∀ (j : Nat) (x : Int), l[j]? = some x → w.cell? ⟨b, off + j, none⟩ = some (.int .i64 x)
theorem Low9.keep {w w' : World} {B : Nat} {A : Option Addr} {l : List Int} {O : List Nat} (h : Low9 w B A l) (hk : Keep O w w') (hO : ∀ b ∈ O, B ≤ b) : Low9 w' B A l := by
  intro hp
  obtain ⟨b, off, e, h1, h2, h3⟩ := h hp
  have hb := hk.block b h2 (fun hm => by have := hO b hm; omega)
  exact ⟨b, off, e, h1, Nat.lt_of_lt_of_le h2 hk.size, fun j x hx => (World.cell?_of_block (a := ⟨b, off + j, none⟩) hb).trans (h3 j x hx)⟩
/-- Writes below block B. -/
def LowW9 (w : World) (B : Nat) (A : Option Addr) (l : List (Int × ByteArray)) : Prop :=
  0 < l.length → ∃ b off, A = some ⟨b, off, none⟩ ∧ b < B ∧ b < w.heap.size ∧ ∀ (j : Nat) (x : Int × ByteArray), l[j]? = some x → w.cell? ⟨b, off + j * 2, none⟩ = some (.int .i64 x.1) ∧ w.cell? ⟨b, off + j * 2 + 1, none⟩ = some (.string x.2)
theorem LowW9.keep {w w' : World} {B : Nat} {A : Option Addr} {l : List (Int × ByteArray)} {O : List Nat} (h : LowW9 w B A l) (hk : Keep O w w') (hO : ∀ b ∈ O, B ≤ b) : LowW9 w' B A l := by
  intro hp
  obtain ⟨b, off, e, h1, h2, h3⟩ := h hp
  have hb := hk.block b h2 (fun hm => by have := hO b hm; omega)
  exact ⟨b, off, e, h1, Nat.lt_of_lt_of_le h2 hk.size, fun j x hx => ⟨(World.cell?_of_block (a := ⟨b, off + j * 2, none⟩) hb).trans (h3 j x hx).1, (World.cell?_of_block (a := ⟨b, off + j * 2 + 1, none⟩) hb).trans (h3 j x hx).2⟩⟩
theorem LowW9.win {w : World} {B : Nat} {A : Option Addr} {l : List (Int × ByteArray)} (h : LowW9 w B A l) : WIn w A l := fun hp => by
  obtain ⟨b, off, e, _, h2, h3⟩ := h hp
  exact ⟨b, off, e, h2, h3⟩
theorem Low9.ints {w : World} {B : Nat} {A : Option Addr} {l : List Int} (h : Low9 w B A l) : IntsD w A l := fun hp => by
  obtain ⟨b, off, e, _, h2, h3⟩ := h hp
  exact ⟨b, off, e, h2, h3⟩
theorem Low9.far {w : World} {B : Nat} {A : Option Addr} {l : List Int} {O : List Nat} (h : Low9 w B A l) (hO : ∀ b ∈ O, B ≤ b) : FarInts A l O := fun hp a e hm => by
  obtain ⟨b, off, e', h1, _, _⟩ := h hp
  rw [e] at e'
  injection e' with e'
  subst e'
  have := hO _ hm
  simp at this
  omega
structure Op9.In (d : Op9) (w : World) (B : Nat) : Prop where
  ws : LowW9 w B d.wa d.w
  wn : d.wa = none → d.wc = 0
  ls : Low9 w B d.la d.l
  ln : d.la = none → d.l.length = 0 ∧ d.lc = 0
theorem Op9.In.keep {d : Op9} {w w' : World} {B : Nat} {O : List Nat} (h : d.In w B) (hk : Keep O w w') (hO : ∀ b ∈ O, B ≤ b) : d.In w' B := ⟨h.ws.keep hk hO, h.wn, h.ls.keep hk hO, h.ln⟩
/-- Few and short. -/
def Op9.light (d : Op9) : Prop := d.w.length ≤ 6000 ∧ d.l.length ≤ 6000 ∧ ∀ x ∈ d.w, x.2.size ≤ 6000

/-- The four cells of an act. -/
def Op9.at_ (d : Op9) (w : World) (b off : Nat) : Prop :=
  w.cell? ⟨b, off, none⟩ = some (.int .i64 d.kind) ∧ w.cell? ⟨b, off + 1, none⟩ = some (.int .i64 d.a) ∧ w.cell? ⟨b, off + 2, none⟩ = some (.slice d.wa d.w.length d.wc) ∧
  w.cell? ⟨b, off + 3, none⟩ = some (.slice d.la d.l.length d.lc)
/-- A list of acts as a slice below B: nil, empty or not. -/
def Acts9 (w : World) (B : Nat) (A : Option Addr) (ds : List Op9) : Prop :=
  0 < ds.length → ∃ b off, A = some ⟨b, off, none⟩ ∧ b < B ∧ b < w.heap.size ∧ ∀ (j : Nat) (d : Op9), ds[j]? = some d → d.at_ w b (off + j * 4) ∧ d.In w B
structure Op9.Fits (d : Op9) : Prop where
  kind : -9223372036854775808 ≤ d.kind ∧ d.kind ≤ 9223372036854775807
  a : -9223372036854775808 ≤ d.a ∧ d.a ≤ 9223372036854775807
  w : d.w.length ≤ 9223372036854775807
  l : d.l.length ≤ 9223372036854775807
  data : ∀ x ∈ d.w, x.2.size ≤ 9223372036854775807
theorem Op9.at_.keep {d : Op9} {w w' : World} {b off : Nat} {O : List Nat} (h : d.at_ w b off) (hk : Keep O w w') (hb : b < w.heap.size) (hO : b ∉ O) : d.at_ w' b off := by
  obtain ⟨h0, h1, h2, h3⟩ := h
  have hh := hk.block b hb hO
  exact ⟨(World.cell?_of_block (a := ⟨b, off, none⟩) hh).trans h0, (World.cell?_of_block (a := ⟨b, off + 1, none⟩) hh).trans h1, (World.cell?_of_block (a := ⟨b, off + 2, none⟩) hh).trans h2, (World.cell?_of_block (a := ⟨b, off + 3, none⟩) hh).trans h3⟩
theorem Acts9.keep {w w' : World} {B : Nat} {A : Option Addr} {ds : List Op9} {O : List Nat} (h : Acts9 w B A ds) (hk : Keep O w w') (hO : ∀ b ∈ O, B ≤ b) : Acts9 w' B A ds := fun hp => by
  obtain ⟨b, off, e, h1, h2, h3⟩ := h hp
  exact ⟨b, off, e, h1, Nat.lt_of_lt_of_le h2 hk.size, fun j d hd => ⟨(h3 j d hd).1.keep hk h2 (fun hm => by have := hO b hm; omega), (h3 j d hd).2.keep hk hO⟩⟩

set_option maxRecDepth 100000 in
set_option maxHeartbeats 1000000 in
/-- Room: what is left, or -1. -/
theorem room9_any (left : Int) (A : Option Addr) (n c : Nat) (xs : List Int) (w : World) (hn : xs.length = n) (hx : IntsD w A xs) (hl : -1 ≤ left ∧ left ≤ 6000) (hp : ∀ x ∈ xs, 0 ≤ x ∧ x ≤ 9223372036854775807) (hm : n ≤ 100) :
    Calls Tryz.prog 23 #[.int .i64 left, .slice A n c] w fun e w' => (∃ r : Int, e = .returned (.int .i64 r) ∧ -1 ≤ r ∧ r ≤ 6000 ∧ (0 ≤ r → 0 ≤ left ∧ ∀ x ∈ xs, x ≤ 6000)) ∧ w = w' := by
  have HX := Lib.hid hx
  have HP := Lib.hid hp
  have HN := Lib.hid hn
  clear hx hp hn
  obtain ⟨l0, l1⟩ := hl
  go_enter Tryz.func23, Tryz.ntmps23
  go_wp2_with fail
  go_loop [0, 5] (fun v i => ∃ (r : Int) (j : Nat), j ≤ n ∧ i = .int .i64 j ∧ v = .int .i64 r ∧ -1 ≤ r ∧ r ≤ 6000 ∧ (0 ≤ r → 0 ≤ left ∧ ∀ x ∈ xs.take j, x ≤ 6000)) (fun _ i => n - (intOf i).toNat)
  case atStart => exact ⟨left, 0, Nat.zero_le _, rfl, rfl, l0, l1, fun h => ⟨h, by simp⟩⟩
  case round =>
    obtain ⟨r, j, hj, rfl, rfl, r0, r1, hq⟩ := hrel
    have HQ := Lib.hid hq
    clear hq
    by_cases hlt : j < n
    · have hxl : j < xs.length := by rw [HN.out]; exact hlt
      obtain ⟨b, off, eA, hbB, hc⟩ := HX.out (by omega)
      obtain ⟨x, hx⟩ : ∃ x, x = xs[j] := ⟨_, rfl⟩
      have hcx : w.cell? ⟨b, off + j, none⟩ = some (.int .i64 x) := hc j x (by rw [hx]; exact List.getElem?_eq_getElem hxl)
      obtain ⟨x0, x1⟩ := HP.out x (by rw [hx]; exact List.getElem_mem hxl)
      have HTK : Hid (xs.take (j + 1) = xs.take j ++ [x]) := Lib.hid (by rw [List.take_succ_eq_append_getElem hxl, hx])
      clear hc hx
      subst eA
      by_cases hneg : r < 0
      · go_wp2_with fail
        go_ret
        exact ⟨⟨-1, rfl, by omega, by omega, fun h => by omega⟩, rfl⟩
      · have hpos : 0 ≤ r := by omega
        clear hneg
        by_cases hbig : r < x
        · go_wp2_with fail
          go_ret
          exact ⟨⟨-1, rfl, by omega, by omega, fun h => by omega⟩, rfl⟩
        · have hsm : x ≤ r := by omega
          have HN2 : Hid (0 ≤ r - x → 0 ≤ left ∧ ∀ y ∈ xs.take (j + 1), y ≤ 6000) := Lib.hid (fun _ => by
            obtain ⟨q1, q2⟩ := HQ.out hpos
            refine ⟨q1, fun y hy => ?_⟩
            rw [HTK.out] at hy
            rcases List.mem_append.1 hy with hy | hy
            · exact q2 y hy
            · have := List.mem_singleton.1 hy; omega)
          clear hbig x1
          go_wp2_with fail
          go_round
          case rel => exact ⟨r - x, j + 1, by omega, by go_num, rfl, by omega, by omega, HN2.out⟩
          case measure => simp [intOf]; omega
    · obtain rfl : j = n := by omega
      have HF : Hid (0 ≤ r → 0 ≤ left ∧ ∀ x ∈ xs, x ≤ 6000) := Lib.hid (fun h => by
        obtain ⟨q1, q2⟩ := HQ.out h
        refine ⟨q1, ?_⟩
        rw [List.take_of_length_le (by rw [HN.out]; exact Nat.le_refl _)] at q2
        exact q2)
      go_wp2_with fail
      go_ret
      exact ⟨⟨r, rfl, r0, r1, HF.out⟩, rfl⟩

theorem ints_two9 {W : World} {b : Nat} {x y : Int} (h0 : W.cell? ⟨b, 0, none⟩ = some (.int .i64 x)) (h1 : W.cell? ⟨b, 1, none⟩ = some (.int .i64 y)) : IntsD W (some ⟨b, 0, none⟩) [x, y] := by
  intro _
  refine ⟨b, 0, rfl, World.block_lt_of_cell? W _ h0, fun i z hz => ?_⟩
  match i, hz with
  | 0, hz => injection hz with hz; rw [← hz]; exact h0
  | 1, hz => injection hz with hz; rw [← hz]; exact h1
theorem ints_19 {W : World} {b : Nat} {x : Int} (h0 : W.cell? ⟨b, 0, none⟩ = some (.int .i64 x)) : IntsD W (some ⟨b, 0, none⟩) [x] := by
  intro _
  refine ⟨b, 0, rfl, World.block_lt_of_cell? W _ h0, fun i z hz => ?_⟩
  match i, hz with
  | 0, hz => injection hz with hz; rw [← hz]; exact h0

def LightSays9 (ds : List Op9) (e : Ending) : Prop := ∃ r : Bool, e = .returned (.bool r) ∧ (r = true → ds.length ≤ 30 ∧ ∀ d ∈ ds, d.light)
set_option maxRecDepth 100000 in
set_option maxHeartbeats 4000000 in
theorem light9_any (A : Option Addr) (c : Nat) (ds : List Op9) (B : Nat) (w : World) (hA : Acts9 w B A ds) (hf : ∀ d ∈ ds, d.Fits) (hn : ds.length ≤ 9223372036854775807) (hB : B ≤ w.heap.size) :
    Calls Tryz.prog 4 #[.slice A ds.length c] w fun e w' => LightSays9 ds e ∧ Below w.heap.size w w' := by
  have HA := Lib.hid hA
  have HF := Lib.hid hf
  have HBB := Lib.hid hB
  obtain ⟨n, en⟩ : ∃ n, n = ds.length := ⟨_, rfl⟩
  rw [← en] at hn ⊢
  have EN := Lib.hid en
  clear hA hf en hB
  have hnI : (n : Int) ≤ 9223372036854775807 := by omega
  go_enter Tryz.func4, Tryz.ntmps4
  go_wp2_with fail
  go_loopw [3, 4] (fun v i wr => ∃ (r : Int) (j : Nat), j ≤ 100 ∧ j ≤ n ∧ i = .int .i64 j ∧ v = .int .i64 r ∧ -1 ≤ r ∧ r ≤ 6000 ∧ Below w.heap.size w wr ∧ (0 ≤ r → ∀ d ∈ ds.take j, d.light)) (fun _ i _ => 100 - (intOf i).toNat)
  case atStart => exact ⟨6000, 0, by omega, by omega, rfl, rfl, by omega, by omega, Below.refl _ _, fun _ => by simp⟩
  case round =>
    obtain ⟨r, j, hj, hjn, rfl, rfl, r0, r1, hbr, hli⟩ := hrel
    have HLI := Lib.hid hli
    have HBR := Lib.hid hbr
    clear hli
    by_cases hgo : j < n ∧ j < 100 ∧ 0 ≤ r
    · obtain ⟨hlt, hj1, hr0⟩ := hgo
      have hxl : j < ds.length := by rw [← EN.out]; exact hlt
      obtain ⟨b, off, eA, hbB, hbw0, hc⟩ := HA.out (by omega)
      obtain ⟨x, hx⟩ : ∃ x, x = ds[j] := ⟨_, rfl⟩
      obtain ⟨hat, hin⟩ := hc j x (by rw [hx]; exact List.getElem?_eq_getElem hxl)
      have hfx := HF.out x (by rw [hx]; exact List.getElem_mem hxl)
      have HTK : Hid (ds.take (j + 1) = ds.take j ++ [x]) := Lib.hid (by rw [List.take_succ_eq_append_getElem hxl, hx])
      have HAT := Lib.hid hat
      have HIN := Lib.hid hin
      have HFX := Lib.hid hfx
      obtain ⟨-, -, k2, k4⟩ := hat.keep (O := []) (Keep.of_below hbr) hbw0 (by simp)
      have HBL := Lib.hid hbw0
      clear hc hx hat hin hfx hbw0
      subst eA
      obtain ⟨lw, hlw⟩ : ∃ lw, lw = x.w.length := ⟨_, rfl⟩
      obtain ⟨ll, hll⟩ : ∃ ll, ll = x.l.length := ⟨_, rfl⟩
      have HLW := Lib.hid hlw
      have HLL := Lib.hid hll
      rw [← hlw] at k2
      rw [← hll] at k4
      have hroom : ∀ W : World, W.cell? ⟨wr.heap.size, 0, none⟩ = some (.int .i64 lw) → W.cell? ⟨wr.heap.size, 1, none⟩ = some (.int .i64 ll) →
          Calls Tryz.prog 23 #[.int .i64 r, .slice (some ⟨wr.heap.size, 0, none⟩) 2 2] W fun e w' => (∃ q : Int, e = .returned (.int .i64 q) ∧ -1 ≤ q ∧ q ≤ 6000 ∧ (0 ≤ q → x.w.length ≤ 6000 ∧ x.l.length ≤ 6000)) ∧ W = w' := by
        intro W h0 h1
        have hf := HFX.out
        have e1 := HLW.out
        have e2 := HLL.out
        refine (room9_any r _ 2 2 [(lw : Int), (ll : Int)] W rfl (ints_two9 h0 h1) ⟨r0, r1⟩ ?_ (by omega)).mono ?_
        · intro y hy
          simp only [List.mem_cons, List.mem_nil_iff, or_false] at hy
          rcases hy with rfl | rfl
          · exact ⟨by omega, by have := hf.w; omega⟩
          · exact ⟨by omega, by have := hf.l; omega⟩
        · rintro e w' ⟨⟨q, rfl, q0, q1, q2⟩, rfl⟩
          refine ⟨⟨q, rfl, q0, q1, fun h => ?_⟩, rfl⟩
          have h3 := (q2 h).2
          have a1 := h3 lw (by simp)
          have a2 := h3 ll (by simp)
          omega
      have hbw : b < wr.heap.size := by have := hbr.size; have := HBL.out; omega
      have HK : Hid (∀ o : Obj, (wr.alloc o).drew.cell? ⟨b, off + j * 4 + 2, none⟩ = some (.slice x.wa lw x.wc) ∧ (wr.alloc o).drew.cell? ⟨b, off + j * 4 + 3, none⟩ = some (.slice x.la ll x.lc)) :=
        Lib.hid fun o => ⟨(World.cell?_alloc_lt wr o ⟨b, off + j * 4 + 2, none⟩ hbw).trans k2, (World.cell?_alloc_lt wr o ⟨b, off + j * 4 + 3, none⟩ hbw).trans k4⟩
      have HROOM := Lib.hid hroom
      have hjI : (j : Int) < 100 := by omega
      have hjnI : (j : Int) < (n : Int) := by omega
      clear hroom hlw hll hbr
      go_wp2_with fail
      go_region_held3 (fun w' => w'.cell? ⟨b, off + j * 4 + 2, none⟩ = some (.slice x.wa lw x.wc) ∧ w'.cell? ⟨b, off + j * 4 + 3, none⟩ = some (.slice x.la ll x.lc)) (first | exact ⟨k2, k4⟩ | exact HK.out _)
        (first | (go_at_call 23; refine (HROOM.out _ (by simp [go_sem]) (by simp [go_sem])).mono ?_; rintro e w1 ⟨⟨r', rfl, s0, s1, s2⟩, rfl⟩))
      have HS2 := Lib.hid s2
      have HB2 : Hid (Below w.heap.size w (wr.alloc (.cells #[.int .i64 lw, .int .i64 ll] 3)).drew) := Lib.hid (HBR.out.alloc HBR.out.size _).drew
      have HWI : Hid (0 ≤ r → ∀ d ∈ ds.take j, d.light) := HLI
      have HRR : Hid (0 ≤ r) := Lib.hid hr0
      have hlwb : (lw : Int) ≤ 9223372036854775807 := by have := HFX.out.w; have := HLW.out; omega
      clear k2 k4 hbw s2
      go_wp2_with fail
      go_loopw [3, 5] (fun v i wi => ∃ (q : Int) (k : Nat), k ≤ lw ∧ i = .int .i64 k ∧ v = .int .i64 q ∧ -1 ≤ q ∧ q ≤ 6000 ∧ Below w.heap.size w wi ∧ (0 ≤ q → 0 ≤ r' ∧ ∀ y ∈ x.w.take k, y.2.size ≤ 6000)) (fun _ i _ => lw - (intOf i).toNat)
      case atStart => exact ⟨r', 0, Nat.zero_le _, rfl, rfl, s0, s1, HB2.out, fun h => ⟨h, by simp⟩⟩
      case round =>
        obtain ⟨q, k, hk, rfl, rfl, q0, q1, hbi, hq⟩ := hrel
        have HQ := Lib.hid hq
        have HBI := Lib.hid hbi
        obtain ⟨-, -, k2, -⟩ := HAT.out.keep (O := []) (Keep.of_below hbi) HBL.out (by simp)
        rw [← HLW.out] at k2
        clear hq
        by_cases hin : k < lw ∧ 0 ≤ q
        · obtain ⟨hkl, hq0⟩ := hin
          have hkw : k < x.w.length := by rw [← HLW.out]; exact hkl
          obtain ⟨tb, toff, eT, htB, htw, hct⟩ := HIN.out.ws (by omega)
          obtain ⟨t, ht⟩ : ∃ t, t = x.w[k] := ⟨_, rfl⟩
          have hcx := (hbi.cell (p := ⟨tb, toff + k * 2 + 1, none⟩) htw).trans (hct k t (by rw [ht]; exact List.getElem?_eq_getElem hkw)).2
          have hts : t.2.size ≤ 9223372036854775807 := HFX.out.data t (by rw [ht]; exact List.getElem_mem hkw)
          have HTT : Hid (x.w.take (k + 1) = x.w.take k ++ [t]) := Lib.hid (by rw [List.take_succ_eq_append_getElem hkw, ht])
          rw [eT] at k2
          have HTS := Lib.hid hts
          have hkI : (k : Int) < (lw : Int) := by omega
          obtain ⟨ta, ts⟩ := t
          simp only at hcx
          clear hct ht hts eT hbi
          go_wp2_with fail
          with_reducible refine (room9_any q (some ⟨wr.heap.size, 0, none⟩) 1 1 [(ts.size : Int)] _ rfl ?_ ⟨q0, q1⟩ ?_ (by omega)).mono ?_
          · exact ints_19 (by simp [go_sem])
          · intro y hy
            have := List.mem_singleton.1 hy
            subst this
            have hts : ts.size ≤ 9223372036854775807 := HTS.out
            exact ⟨by omega, by omega⟩
          rintro e w1 ⟨⟨q', rfl, t0, t1, t2⟩, rfl⟩
          have HB3 : Hid (Below w.heap.size w (wr.alloc (.cells #[.int .i64 ts.size] 3))) := Lib.hid (HBI.out.alloc HBI.out.size _)
          have HN2 : Hid (0 ≤ q' → 0 ≤ r' ∧ ∀ y ∈ x.w.take (k + 1), y.2.size ≤ 6000) := Lib.hid (fun h => by
            obtain ⟨a1, a2⟩ := t2 h
            obtain ⟨a3, a4⟩ := HQ.out a1
            refine ⟨a3, fun y hy => ?_⟩
            rw [HTT.out] at hy
            rcases List.mem_append.1 hy with hy | hy
            · exact a4 y hy
            · have := List.mem_singleton.1 hy
              subst this
              have := a2 (ts.size : Int) (by simp)
              show ts.size ≤ 6000
              omega)
          clear k2 hcx t2
          go_wp2_with fail
          go_roundw
          case rel => exact ⟨q', k + 1, by omega, by go_num, rfl, t0, t1, HB3.out, HN2.out⟩
          case measure => simp [intOf]; omega
        · have HEND : Hid (0 ≤ q → ∀ d ∈ ds.take (j + 1), d.light) := Lib.hid (fun h => by
            have e : k = lw := by
              rcases Nat.lt_or_ge k lw with h' | h'
              · exact absurd ⟨h', h⟩ hin
              · omega
            obtain ⟨a1, a2⟩ := HQ.out h
            rw [e, HLW.out, List.take_length] at a2
            obtain ⟨a3, a4⟩ := HS2.out a1
            intro d hd
            rw [HTK.out] at hd
            rcases List.mem_append.1 hd with hd | hd
            · exact HWI.out HRR.out d hd
            · have := List.mem_singleton.1 hd
              subst this
              exact ⟨a3, a4, a2⟩)
          have hex : ((k : Int) < (lw : Int) ∧ q < 0) ∨ k = lw := by
            rcases Nat.lt_or_ge k lw with h' | h'
            · left
              refine ⟨by omega, ?_⟩
              rcases Int.lt_or_le q 0 with h | h
              · exact h
              · exact absurd ⟨h', h⟩ hin
            · right; omega
          clear hin hbi
          rcases hex with ⟨hx1, hx2⟩ | rfl
          · go_wp2_with fail
            go_roundw
            case rel => exact ⟨q, j + 1, by omega, by omega, by go_num, rfl, q0, q1, HBI.out, HEND.out⟩
            case measure => simp [intOf]; omega
          · go_wp2_with fail
            go_roundw
            case rel => exact ⟨q, j + 1, by omega, by omega, by go_num, rfl, q0, q1, HBI.out, HEND.out⟩
            case measure => simp [intOf]; omega
    · have HANS : Hid (0 ≤ r → n ≤ 30 → ∀ d ∈ ds, d.light) := Lib.hid (fun h1 h2 => by
        have e : j = n := by
          rcases Nat.lt_or_ge j n with h' | h'
          · exact absurd ⟨h', by omega, h1⟩ hgo
          · omega
        have h3 := HLI.out h1
        rw [e, EN.out, List.take_length] at h3
        exact h3)
      have hex : ((j : Int) < (n : Int) ∧ (j : Int) < 100 ∧ r < 0) ∨ ((j : Int) < (n : Int) ∧ j = 100) ∨ j = n := by
        rcases Nat.lt_or_ge j n with h' | h'
        · rcases Nat.lt_or_ge j 100 with h2 | h2
          · left
            refine ⟨by omega, by omega, ?_⟩
            rcases Int.lt_or_le r 0 with h | h
            · exact h
            · exact absurd ⟨h', h2, h⟩ hgo
          · right; left; exact ⟨by omega, by omega⟩
        · right; right; omega
      clear hgo hbr
      by_cases h40 : n ≤ 30
      · have h40I : (n : Int) ≤ 30 := by omega
        by_cases hr0 : 0 ≤ r
        · have HT := Lib.hid (HANS.out hr0 h40)
          rcases hex with ⟨h1, h2, h3⟩ | ⟨h1, h2⟩ | rfl
          · omega
          · omega
          · go_wp2_with fail
            go_ret
            exact ⟨⟨true, rfl, fun _ => ⟨by rw [← EN.out]; exact h40, HT.out⟩⟩, HBR.out⟩
        · have hr1 : r < 0 := by omega
          rcases hex with ⟨h1, h2, h3⟩ | ⟨h1, h2⟩ | rfl
          · go_wp2_with fail
            go_ret
            exact ⟨⟨false, rfl, fun h => by cases h⟩, HBR.out⟩
          · omega
          · go_wp2_with fail
            go_ret
            exact ⟨⟨false, rfl, fun h => by cases h⟩, HBR.out⟩
      · have h40I : ¬ (n : Int) ≤ 30 := by omega
        have h40J : (30 : Int) < (n : Int) := by omega
        rcases hex with ⟨h1, h2, h3⟩ | ⟨h1, rfl⟩ | rfl
        · go_wp2_with fail
          go_ret
          exact ⟨⟨false, rfl, fun h => by cases h⟩, HBR.out⟩
        · go_wp2_with fail
          go_ret
          exact ⟨⟨false, rfl, fun h => by cases h⟩, HBR.out⟩
        · by_cases h200 : j < 100
          · have h2I : (j : Int) < 100 := by omega
            go_wp2_with fail
            go_ret
            exact ⟨⟨false, rfl, fun h => by cases h⟩, HBR.out⟩
          · go_wp2_with fail
            go_ret
            exact ⟨⟨false, rfl, fun h => by cases h⟩, HBR.out⟩
end Go.Proofs.YtbaanoomilohhaaGreatDoor

namespace Go.Proofs.YtbaanoomilohhaaGreatDoor
open Go.ChangeShapes Go.WideShapes Go.ChangeAt Go.RowKit
open Go.WideMaps Go.WideElems
open Go.Deep

set_option maxRecDepth 100000 in
theorem cellsOp9 : Tryz.prog.cellsOf 37 = 4 := by kernel_rfl
set_option maxRecDepth 100000 in
theorem cellsWrite9 : Tryz.prog.cellsOf 39 = 2 := by kernel_rfl
theorem cellsStr9 : Tryz.prog.cellsOf 9 = 1 := by kernel_rfl
theorem cellsInts9 : Tryz.prog.cellsOf 35 = 1 := by kernel_rfl
theorem cellsWrites9 : Tryz.prog.cellsOf 34 = 1 := by kernel_rfl

/-- Numbers that came in, from the cells of their slice. -/
theorem cells_ints9 {H : Type} {enc : TypeId × Value → H} {W : World} {cs : List Value} {fuel : Nat} {x : DataW H × List MemPlace} (h : DataW.trod enc Tryz.prog W 0 (fun _ => true) true fuel 35 cs = some x) :
    ∃ (a : Option Addr) (c : Nat) (l : List Int), cs = [.slice a l.length c] ∧ Low9 W W.heap.size a l ∧ (a = none → l.length = 0 ∧ c = 0) ∧ l.length ≤ 9223372036854775807 := by
  rcases open_ints Tryz.underlying35 Tryz.underlying3 cellsIntV h with ⟨hcs, _⟩ | ⟨a', len, cap, zs, hcs, _, hl, hcap, hz, _, hc, hw⟩
  · exact ⟨none, 0, [], hcs, (fun h => by cases h), fun _ => ⟨rfl, rfl⟩, by simp⟩
  · simp only [if_true] at hz
    have hmax : maxLen = 9223372036854775807 := rfl
    have hlen : (zs.take len).length = len := by rw [List.length_take]; omega
    refine ⟨some a', cap, zs.take len, by rw [hlen]; exact hcs, ?_, (fun e => by cases e), by omega⟩
    intro hpos
    rw [hlen] at hpos
    obtain ⟨b, off, rfl, hb, hc'⟩ := plain_at hc (by omega)
    refine ⟨b, off, rfl, hb, hb, fun j x hx => ?_⟩
    rw [List.getElem?_take] at hx
    split at hx
    · have := hc' j (by omega)
      rw [this, List.getD_eq_getElem?_getD, hx]
      rfl
    · cases hx
/-- Writes that came in. -/
theorem cells_writes9 {H : Type} {enc : TypeId × Value → H} {W : World} {cs : List Value} {fuel : Nat} {x : DataW H × List MemPlace} (h : DataW.trod enc Tryz.prog W 0 (fun _ => true) true fuel 34 cs = some x) :
    ∃ (a : Option Addr) (c : Nat) (l : List (Int × ByteArray)), cs = [.slice a l.length c] ∧ LowW9 W W.heap.size a l ∧ (a = none → c = 0) ∧ l.length ≤ 9223372036854775807 ∧ ∀ x ∈ l, x.2.size ≤ 9223372036854775807 := by
  rcases open_slice_pairs Tryz.underlying34 Tryz.underlying39 cellsWrite9 rfl rfl cellsIntV cellsStr9 h with ⟨hcs, _⟩ | ⟨a', len, cap, m, n, V0, V1, D0, D1, P0, P1, hcs, _, hl, hcap, hm, _, hx⟩
  · exact ⟨none, 0, [], hcs, (fun h => by cases h), fun _ => rfl, by simp, by simp⟩
  · simp only [if_true] at hm
    subst hm
    have hmax : maxLen = 9223372036854775807 := rfl
    obtain ⟨F, hF⟩ := choose_lt (α := Int × ByteArray) (n := len) (p := fun i x => W.cell? (a'.add (i * 2)) = some (.int .i64 x.1) ∧ W.cell? (a'.add (i * 2 + 1)) = some (.string x.2) ∧ x.2.size ≤ 9223372036854775807) (fun i hi => by
      obtain ⟨h1, h2, h3, h4⟩ := hx i (by omega)
      obtain ⟨k, e0, _, _⟩ := DataW.trod_int Tryz.underlying3 h3
      obtain ⟨s, e1, _, ws⟩ := DataW.trod_string Tryz.underlying9 h4
      injection e0 with e0
      injection e1 with e1
      rw [e0] at h1
      rw [e1] at h2
      exact ⟨(k, s), h1, h2, by show s.size ≤ _; rw [← hmax]; exact ws⟩)
    have hlen : ((List.range len).map F).length = len := by simp
    refine ⟨some a', m, (List.range len).map F, by rw [hlen]; exact hcs, ?_, (fun e => by cases e), by omega, ?_⟩
    · intro hpos
      rw [hlen] at hpos
      obtain ⟨b, off, spot⟩ := a'
      have h00 := (hF 0 hpos).1
      have hspot : spot = none := by
        have := World.cell?_spot h00
        simpa [Addr.add] using this
      subst hspot
      have hb : b < W.heap.size := by
        rw [Go.WideShapes.add_plain] at h00
        exact World.block_lt_of_cell? W _ h00
      refine ⟨b, off, rfl, hb, hb, fun j x hx => ?_⟩
      rw [List.getElem?_map] at hx
      obtain ⟨i, hi, rfl⟩ := Option.map_eq_some_iff.1 hx
      have hij : j < len ∧ j = i := by
        by_cases hj : j < len
        · rw [List.getElem?_range hj] at hi
          exact ⟨hj, Option.some.inj hi⟩
        · rw [List.getElem?_eq_none (by simp; omega)] at hi; cases hi
      obtain ⟨hj, rfl⟩ := hij
      obtain ⟨q1, q2, _⟩ := hF j hj
      rw [Go.WideShapes.add_plain] at q1 q2
      exact ⟨q1, by rw [Nat.add_assoc]; exact q2⟩
    · intro x hx
      obtain ⟨i, hi, rfl⟩ := List.mem_map.1 hx
      exact (hF i (List.mem_range.1 hi)).2.2
theorem four9 (cs : List Value) (h : cs.length = 4) : ∃ v0 v1 v2 v3, cs = [v0, v1, v2, v3] := by
  match cs, h with
  | [v0, v1, v2, v3], _ => exact ⟨v0, v1, v2, v3, rfl⟩
theorem four9b {α : Type} (cs : List α) (h : cs.length = 4) : ∃ v0 v1 v2 v3, cs = [v0, v1, v2, v3] := by
  match cs, h with
  | [v0, v1, v2, v3], _ => exact ⟨v0, v1, v2, v3, rfl⟩

set_option maxRecDepth 100000 in
/-- The cells of an act that came in. -/
theorem cells_op9 {H : Type} {enc : TypeId × Value → H} {W : World} {cs : List Value} {fuel : Nat} {x : DataW H × List MemPlace} (h : DataW.trod enc Tryz.prog W 0 (fun _ => true) true fuel 37 cs = some x) :
    ∃ d : Op9, cs = d.cells.toList ∧ d.In W W.heap.size ∧ d.Fits := by
  obtain ⟨xs, n, _, rfl, hl, hlen, hf⟩ := DataW.trod_struct Tryz.underlying37 h
  rw [cellsOp9] at hl
  obtain ⟨v0, v1, v2, v3, rfl⟩ := four9 cs hl
  obtain ⟨y0, y1, y2, y3, rfl⟩ := four9b xs hlen
  have h0 : DataW.trod enc Tryz.prog W 0 (fun _ => true) true n 3 (([v0, v1, v2, v3].drop 0).take (Tryz.prog.cellsOf 3)) = some y0 := hf 0 _ rfl
  have h1 : DataW.trod enc Tryz.prog W 0 (fun _ => true) true n 3 (([v0, v1, v2, v3].drop 1).take (Tryz.prog.cellsOf 3)) = some y1 := hf 1 _ rfl
  have h2 : DataW.trod enc Tryz.prog W 0 (fun _ => true) true n 34 (([v0, v1, v2, v3].drop 2).take (Tryz.prog.cellsOf 34)) = some y2 := hf 2 _ rfl
  have h3 : DataW.trod enc Tryz.prog W 0 (fun _ => true) true n 35 (([v0, v1, v2, v3].drop 3).take (Tryz.prog.cellsOf 35)) = some y3 := hf 3 _ rfl
  simp only [cellsIntV, cellsInts9, cellsWrites9, List.drop_zero, List.drop_succ_cons, List.take_succ_cons, List.take_zero] at h0 h1 h2 h3
  obtain ⟨k, e0, _, w0⟩ := DataW.trod_int Tryz.underlying3 h0
  obtain ⟨a, e1, _, w1⟩ := DataW.trod_int Tryz.underlying3 h1
  obtain ⟨wa, wc, ws, e2, hw1, hw2, hw3, hw4⟩ := cells_writes9 h2
  obtain ⟨la, lc, ls, e3, hl1, hl2, hl3⟩ := cells_ints9 h3
  injection e0 with e0
  injection e1 with e1
  injection e2 with e2
  injection e3 with e3
  subst e0 e1 e2 e3
  exact ⟨⟨k, a, wa, wc, ws, la, lc, ls⟩, rfl, ⟨hw1, hw2, hl1, hl2⟩, ⟨bounds_i64 w0, bounds_i64 w1, hw3, hl3, hw4⟩⟩

instance : Inhabited Op9 := ⟨⟨0, 0, none, 0, [], none, 0, []⟩⟩
/-- A list of acts that came in. -/
structure Acts9In (w : World) (A : Option Addr) (n : Nat) (ds : List Op9) : Prop where
  lie : Acts9 w w.heap.size A ds
  len : ds.length = n
  fits : ∀ d ∈ ds, d.Fits
  few : n ≤ 9223372036854775807
theorem view_acts9 {H : Type} {enc : TypeId × Value → H} {W : World} {a : Option Addr} {n c : Nat} {d : DataW H} {p : List MemPlace} (h : DataW.Trod enc Tryz.prog W 0 (fun _ => true) true 22 (.slice a n c) d p) :
    ∃ ds : List Op9, Acts9In W a n ds := by
  obtain ⟨fuel, hf⟩ := h
  rcases open_slice Tryz.underlying22 hf with ⟨hcs, _⟩ | ⟨a', len, cap, m, k, D, Pl, hcs, _, hl, hcap, hm, _, hx⟩
  · simp [Value.cells] at hcs
    obtain ⟨rfl, rfl, rfl⟩ := hcs
    exact ⟨[], (fun h => by cases h), rfl, (fun d hd => by cases hd), by simp⟩
  · simp [Value.cells] at hcs
    obtain ⟨rfl, rfl, rfl⟩ := hcs
    simp only [if_true] at hm
    subst hm
    have hmax : maxLen = 9223372036854775807 := rfl
    obtain ⟨F, hF⟩ := choose_lt (α := Op9) (n := n) (p := fun i d => (∀ j, j < 4 → W.cell? (a'.add (i * 4 + j)) = d.cells.toList[j]?) ∧ d.In W W.heap.size ∧ d.Fits) (fun i hi => by
      obtain ⟨cs', h1, h2⟩ := hx i (by omega)
      obtain ⟨d, hd, ht, hfit⟩ := cells_op9 h2
      rw [cellsOp9] at h1
      obtain ⟨_, _, hc⟩ := World.cells?_some h1
      refine ⟨d, fun j hj => ?_, ht, hfit⟩
      rw [← Addr.add_add, hc j hj, hd])
    have hlen : ((List.range n).map F).length = n := by simp
    refine ⟨(List.range n).map F, ?_, hlen, ?_, by omega⟩
    · intro hpos
      rw [hlen] at hpos
      obtain ⟨b, off, spot⟩ := a'
      have h00 := (hF 0 hpos).1 0 (by omega)
      have hspot : spot = none := by
        have := World.cell?_spot h00
        simpa [Addr.add] using this
      subst hspot
      have hb : b < W.heap.size := by
        rw [Go.WideShapes.add_plain] at h00
        exact World.block_lt_of_cell? W _ h00
      refine ⟨b, off, rfl, hb, hb, fun j d hd => ?_⟩
      rw [List.getElem?_map] at hd
      obtain ⟨i, hi, rfl⟩ := Option.map_eq_some_iff.1 hd
      have hij : j < n ∧ j = i := by
        by_cases hj : j < n
        · rw [List.getElem?_range hj] at hi
          exact ⟨hj, Option.some.inj hi⟩
        · rw [List.getElem?_eq_none (by simp; omega)] at hi; cases hi
      obtain ⟨hj, rfl⟩ := hij
      obtain ⟨hc, ht, _⟩ := hF j hj
      have q : ∀ i, i < 4 → W.cell? ⟨b, off + j * 4 + i, none⟩ = (F j).cells.toList[i]? := fun i hi => by
        rw [← hc i hi, Go.WideShapes.add_plain, Nat.add_assoc]
      exact ⟨⟨q 0 (by omega), q 1 (by omega), q 2 (by omega), q 3 (by omega)⟩, ht⟩
    · intro d hd
      obtain ⟨i, hi, rfl⟩ := List.mem_map.1 hd
      exact (hF i (List.mem_range.1 hi)).2.2
end Go.Proofs.YtbaanoomilohhaaGreatDoor
