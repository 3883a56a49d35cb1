/-
  masonrybook's lists of numbers: lent, kept, held against each other. No statement is proved here.
-/
import Derived.Test.YtdibeieiogagoaaGreatDoorTxts
import Derived.WalkKit
import Derived.ProofKit
import Derived.OpenShut
import Derived.SliceStrings
import Derived.ChangeSlices
import Derived.Test.YtdibeieiogagoaaGreatDoorDiskAlive
import Derived.Laws.BitsLemmas
namespace Go.Proofs.YtdibeieiogagoaaGreatDoor
open Go.ChangeShapes Go.WideShapes Go.ChangeAt Go.RowKit
open Go.WideMaps Go.WideElems

theorem laidOut : laidOutB Tryz.prog = true := by kernel_rfl
theorem cellsStr : Tryz.prog.cellsOf 9 = 1 := by kernel_rfl

/-- Texts as they came in: each is an int long, and so are all. -/
structure TextsIn (w : World) (A : Option Addr) (m c : Nat) (xs : List ByteArray) : Prop where
  len : xs.length = m
  lie : Txts w w.heap.size A xs
  nil_ : A = none → c = 0
  few : m ≤ 9223372036854775807
  short : ∀ x ∈ xs, x.size ≤ 9223372036854775807

/-- Cells from an address on are cells of one block, where there is one at all. -/
theorem plain_at {W : World} {a : Addr} {n : Nat} {f : Nat → Value} (h : ∀ i, i < n → W.cell? (a.add i) = some (f i)) (hp : 0 < n) :
    ∃ b off, a = ⟨b, off, none⟩ ∧ b < W.heap.size ∧ ∀ j, j < n → W.cell? ⟨b, off + j, none⟩ = some (f j) := by
  obtain ⟨b, off, spot⟩ := a
  have hspot : spot = none := by simpa [Addr.add] using World.cell?_spot (h 0 hp)
  subst hspot
  have hc : ∀ j, j < n → W.cell? ⟨b, off + j, none⟩ = some (f j) := fun j hj => by rw [← Go.WideShapes.add_plain]; exact h j hj
  exact ⟨b, off, rfl, World.block_lt_of_cell? W _ (hc 0 hp), hc⟩

/-- A list of texts that came in. -/
theorem view_texts {H : Type} {enc : TypeId × Value → H} {W : World} {a : Option Addr} {n c : Nat} {d : DataW H} {p : List MemPlace} (h : DataW.Trod enc Tryz.prog W 0 (fun _ => true) true 38 (.slice a n c) d p) :
    ∃ xs : List ByteArray, TextsIn W a n c xs := by
  obtain ⟨fuel, hf⟩ := h
  rcases open_strings Tryz.underlying38 Tryz.underlying9 cellsStr hf with ⟨hcs, _⟩ | ⟨a', len, cap, zs, hcs, _, hl, hcap, hz, _, hc, hw⟩
  · simp [Value.cells] at hcs
    obtain ⟨rfl, rfl, rfl⟩ := hcs
    exact ⟨[], rfl, Txts.nil _ _ _, fun _ => rfl, by omega, by simp⟩
  · simp [Value.cells] at hcs
    obtain ⟨rfl, rfl, rfl⟩ := hcs
    simp only [if_true] at hz
    have hmax : maxLen = 9223372036854775807 := rfl
    have hlen : (zs.take n).length = n := by rw [List.length_take]; omega
    refine ⟨zs.take n, hlen, ?_, (fun e => by cases e), by omega, fun t ht => by rw [← hmax]; exact hw t (List.mem_of_mem_take ht)⟩
    intro hpos
    rw [hlen] at hpos
    obtain ⟨b, off, rfl, hb, hc'⟩ := plain_at hc (by omega)
    refine ⟨b, off, rfl, hb, fun j x hx => ?_⟩
    rw [List.getElem?_take] at hx
    split at hx
    · have := hc' j (by omega)
      rw [this, List.getD_eq_getElem?_getD, hx]
      rfl
    · cases hx
theorem cellsByte : Tryz.prog.cellsOf 5 = 1 := by kernel_rfl

/-- Bytes as they came in. -/
structure BytesIn (w : World) (A : Option Addr) (m c : Nat) (l : List UInt8) : Prop where
  len : l.length = m
  lie : 0 < l.length → ∃ b off, A = some ⟨b, off, none⟩ ∧ b < w.heap.size ∧ ∀ (j : Nat) (x : UInt8), l[j]? = some x → w.cell? ⟨b, off + j, none⟩ = some (.int .u8 (x.toNat : Int))
  nil_ : A = none → c = 0
  few : m ≤ 9223372036854775807
  cap : m ≤ c

/-- A number of a byte, as a byte. -/
theorem byte_of {n : Int} (h : (Lit.int .u8 n).wf = true) : ∃ x : UInt8, n = (x.toNat : Int) := by
  obtain ⟨h0, h1⟩ := bounds_u8 h
  refine ⟨n.toNat.toUInt8, ?_⟩
  have : (n.toNat.toUInt8).toNat = n.toNat % 256 := by simp [Nat.toUInt8]
  rw [this]
  omega
theorem bytes_of {zs : List Int} (h : ∀ n ∈ zs, (Lit.int .u8 n).wf = true) : ∃ l : List UInt8, zs = l.map fun x => (x.toNat : Int) := by
  induction zs with
  | nil => exact ⟨[], rfl⟩
  | cons n r ih =>
    obtain ⟨l, hl⟩ := ih (fun k hk => h k (by simp [hk]))
    obtain ⟨x, hx⟩ := byte_of (h n (by simp))
    exact ⟨x :: l, by rw [hl, hx]; rfl⟩

/-- A list of bytes that came in. -/
theorem view_bytes {H : Type} {enc : TypeId × Value → H} {W : World} {a : Option Addr} {n c : Nat} {d : DataW H} {p : List MemPlace} (h : DataW.Trod enc Tryz.prog W 0 (fun _ => true) true 90 (.slice a n c) d p) :
    ∃ l : List UInt8, BytesIn W a n c l := by
  obtain ⟨fuel, hf⟩ := h
  rcases open_ints Tryz.underlying90 Tryz.underlying5 cellsByte hf with ⟨hcs, _⟩ | ⟨a', len, cap, zs, hcs, _, hl, hcap, hz, _, hc, hw⟩
  · simp [Value.cells] at hcs
    obtain ⟨rfl, rfl, rfl⟩ := hcs
    exact ⟨[], rfl, fun h => absurd h (by simp), fun _ => rfl, by omega, by omega⟩
  · simp [Value.cells] at hcs
    obtain ⟨rfl, rfl, rfl⟩ := hcs
    simp only [if_true] at hz
    have hmax : maxLen = 9223372036854775807 := rfl
    obtain ⟨l, rfl⟩ := bytes_of hw
    rw [List.length_map] at hz
    have hlen : (l.take n).length = n := by rw [List.length_take]; omega
    refine ⟨l.take n, hlen, ?_, (fun e => by cases e), by omega, hl⟩
    intro hpos
    rw [hlen] at hpos
    obtain ⟨b, off, rfl, hb, hc'⟩ := plain_at hc (by rw [List.length_map]; omega)
    refine ⟨b, off, rfl, hb, fun j x hx => ?_⟩
    rw [List.getElem?_take] at hx
    split at hx
    · have := hc' j (by rw [List.length_map]; omega)
      rw [this, List.getD_eq_getElem?_getD, List.getElem?_map, hx]
      rfl
    · cases hx
end Go.Proofs.YtdibeieiogagoaaGreatDoor

namespace Go.Proofs.YtdibeieiogagoaaGreatDoor
open Go.ChangeShapes Go.WideShapes Go.ChangeAt Go.RowKit
open Go.WideMaps Go.WideElems

theorem i64_and1 (n : Int) : bits .and .i64 n 1 = n % 2 := by
  have h1 : (BitVec.ofInt 64 1).toNat = 2 ^ 1 - 1 := by decide
  have key : (BitVec.ofInt 64 n &&& BitVec.ofInt 64 1).toNat = (n % ((2 ^ 64 : Nat) : Int)).toNat % 2 ^ 1 := by
    rw [BitVec.toNat_and, BitVec.toNat_ofInt, h1, Nat.and_two_pow_sub_one_eq_mod]
  show IntKind.i64.wrap ((BitVec.ofInt 64 n &&& BitVec.ofInt 64 1).toNat : Nat) = n % 2
  rw [key, IntKind.wrap_i64]
  omega
theorem odd_and {y : Int} (h : oddI y = true) : bits .and .i64 y 1 = 1 := by
  rw [i64_and1]
  simpa [oddI] using h
theorem even_and {y : Int} (h : oddI y = false) : bits .and .i64 y 1 = 0 := by
  rw [i64_and1]
  have h1 : ¬ y % 2 = 1 := by simpa [oddI] using h
  omega

/-- Numbers as they came in. -/
structure IntsIn (w : World) (A : Option Addr) (m c : Nat) (l : List Int) : Prop where
  len : l.length = m
  lie : IntsD w A l
  nil_ : A = none → m = 0 ∧ c = 0
  few : m ≤ 9223372036854775807
  fits : ∀ n ∈ l, -9223372036854775808 ≤ n ∧ n ≤ 9223372036854775807
theorem cellsInt : Tryz.prog.cellsOf 3 = 1 := by kernel_rfl
theorem view_intsD {H : Type} {enc : TypeId × Value → H} {W : World} {a : Option Addr} {n c : Nat} {d : DataW H} {p : List MemPlace} (h : DataW.Trod enc Tryz.prog W 0 (fun _ => true) true 39 (.slice a n c) d p) :
    ∃ l : List Int, IntsIn W a n c l := by
  obtain ⟨fuel, hf⟩ := h
  rcases open_ints Tryz.underlying39 Tryz.underlying3 cellsInt hf with ⟨hcs, _⟩ | ⟨a', len, cap, zs, hcs, _, hl, hcap, hz, _, hc, hw⟩
  · simp [Value.cells] at hcs
    obtain ⟨rfl, rfl, rfl⟩ := hcs
    exact ⟨[], rfl, IntsD.nil _ _, fun _ => ⟨rfl, rfl⟩, by omega, by simp⟩
  · simp [Value.cells] at hcs
    obtain ⟨rfl, rfl, rfl⟩ := hcs
    simp only [if_true] at hz
    have hmax : maxLen = 9223372036854775807 := rfl
    have hlen : (zs.take n).length = n := by rw [List.length_take]; omega
    refine ⟨zs.take n, hlen, ?_, (fun e => by cases e), by omega, fun x hx => bounds_i64 (hw x (List.mem_of_mem_take hx))⟩
    intro hpos
    rw [hlen] at hpos
    obtain ⟨b, off, rfl, hb, hc'⟩ := plain_at hc (by omega)
    refine ⟨b, off, rfl, hb, fun j x hx => ?_⟩
    rw [List.getElem?_take] at hx
    split at hx
    · have := hc' j (by omega)
      rw [this, List.getD_eq_getElem?_getD, hx]
      rfl
    · cases hx
end Go.Proofs.YtdibeieiogagoaaGreatDoor

namespace Go.Proofs.YtdibeieiogagoaaGreatDoor
open Go.RowKit

theorem ints_cells {w : World} {B b off : Nat} {xs : List Int} (hc : ∀ (j : Nat) (x : Int), xs[j]? = some x → w.cell? ⟨b, off + j, none⟩ = some (.int .i64 x)) (_hB : b < B) :
    ∀ (j : Nat) (u : Value), (xs.map (Value.int .i64))[j]? = some u → w.cell? ((⟨b, off, none⟩ : Addr).add j) = some u := by
  intro j u hu
  rw [List.getElem?_map] at hu
  obtain ⟨x, hx, rfl⟩ := Option.map_eq_some_iff.1 hu
  rw [Go.WideShapes.add_plain]
  exact hc j x hx

set_option maxRecDepth 100000 in
set_option maxHeartbeats 1000000 in
theorem icopy_any (A : Option Addr) (m c : Nat) (xs : List Int) (w : World) (hm : xs.length = m) (hx : IntsD w A xs) (hl : m ≤ 1000000) (h0 : A = none → c = 0) :
    Calls Tryz.prog 56 #[.slice A m c] w fun e w' => ∃ v, e = .returned v ∧ w'.ownsRow w.heap.size 3 1 v m (xs.map (Value.int .i64)) ∧ Below w.heap.size w w' := by
  obtain ⟨i0, hi, hz0, hz1, hz2⟩ := info_parts clints_info
  have HX := Lib.hid hx
  have HM := Lib.hid hm
  have H0 := Lib.hid h0
  clear hx hm h0
  rcases A with _ | ad
  · obtain rfl : c = 0 := H0.out rfl
    have hm0 : m = 0 := by
      rcases Nat.eq_zero_or_pos m with h | h
      · exact h
      · obtain ⟨b, off, e, _⟩ := HX.out (by rw [HM.out]; exact h)
        cases e
    subst hm0
    have hxs : xs = [] := List.eq_nil_of_length_eq_zero HM.out
    subst hxs
    go_enter Tryz.func56, Tryz.ntmps56
    go_wp2_with (at_builtin; refine wpList_append_own_none rfl _ _ 39 rfl w.heap.size 3 i0 1 Tryz.underlying39 hi (.slice none 0 0) 0 [] rfl (World.ownsRow_nil _ _ _ _) rfl ?_)
    go_ret
    exact ⟨_, rfl, World.ownsRow_nil _ _ _ _, Below.refl _ _⟩
  · have hnews : ∀ (j : Nat) (u : Value), (xs.map (Value.int .i64))[j]? = some u → w.cell? (ad.add j) = some u := by
      intro j u hu
      have hj : j < xs.length := by
        rcases Nat.lt_or_ge j xs.length with h | h
        · exact h
        · rw [List.getElem?_eq_none (by rw [List.length_map]; exact h)] at hu; cases hu
      obtain ⟨b, off, e, hB, hc⟩ := HX.out (by omega)
      injection e with e
      subst e
      exact ints_cells hc hB j u hu
    have hone : ∀ u ∈ xs.map (Value.int .i64), u.oneCell' = true := by
      intro u hu
      obtain ⟨x, _, rfl⟩ := List.mem_map.1 hu
      rfl
    have HN := Lib.hid hnews
    have HO := Lib.hid hone
    clear hnews hone
    go_enter Tryz.func56, Tryz.ntmps56
    go_wp2_with (at_builtin; refine wpList_append_own _ rfl _ _ 39 rfl w.heap.size 3 i0 (.int .i64 0) 1 8 Tryz.underlying39 hi hz0 hz1 hz2 rfl (by omega) (.slice none 0 0) 0 [] rfl (World.ownsRow_nil _ _ _ _) ad m c (xs.map (Value.int .i64)) rfl (by rw [List.length_map, HM.out]; omega) HN.out HO.out (by unfold maxLen; omega) (by omega) (Nat.le_refl _) ?_; intro v1 w1 hown1 hg1 _)
    have hb1 : Below w.heap.size w w1 := (Below.refl _ _).grown hg1 (Nat.le_refl _) (by simp [Value.ownBlock])
    clear hg1
    have HOW := Lib.hid hown1
    clear hown1
    go_wp2_with fail
    go_ret
    exact ⟨v1, rfl, by simpa using HOW.out, hb1⟩

/-- A list lent: it lies in a block of its own, with a mark behind it that it has room for. -/
def LentI (w : World) (B g cap : Nat) (xs : List Int) : Prop :=
  B ≤ g ∧ g < w.heap.size ∧ xs.length + 1 ≤ cap ∧ cap ≤ 9223372036854775807 ∧ ∀ (j : Nat) (x : Int), (xs ++ [(-77)])[j]? = some x → w.cell? ⟨g, j, none⟩ = some (.int .i64 x)
theorem LentI.below {w w' : World} {B g cap : Nat} {xs : List Int} (h : LentI w B g cap xs) (hb : Below w.heap.size w w') : LentI w' B g cap xs := by
  obtain ⟨h0, h1, h2, h3, h4⟩ := h
  exact ⟨h0, Nat.lt_of_lt_of_le h1 hb.size, h2, h3, fun j x hx => (hb.cell (p := ⟨g, j, none⟩) h1).trans (h4 j x hx)⟩
theorem LentI.ints {w : World} {B g cap : Nat} {xs : List Int} (h : LentI w B g cap xs) : IntsD w (some ⟨g, 0, none⟩) xs := by
  obtain ⟨h0, h1, h2, h3, h4⟩ := h
  intro _
  refine ⟨g, 0, rfl, h1, fun j x hx => ?_⟩
  rw [Nat.zero_add]
  have hj : j < xs.length := by
    rcases Nat.lt_or_ge j xs.length with h | h
    · exact h
    · rw [List.getElem?_eq_none h] at hx; cases hx
  exact h4 j x (by rw [List.getElem?_append_left hj]; exact hx)


set_option maxRecDepth 100000 in
set_option maxHeartbeats 1000000 in
theorem ilent_any (A : Option Addr) (m c : Nat) (xs : List Int) (w : World) (hm : xs.length = m) (hx : IntsD w A xs) (hl : m ≤ 900000) (h0 : A = none → c = 0) :
    Calls Tryz.prog 19 #[.slice A m c] w fun e w' => ∃ g cap, e = .returned (.slice (some ⟨g, 0, none⟩) m cap) ∧ LentI w' w.heap.size g cap xs ∧ Below w.heap.size w w' := by
  obtain ⟨i0, hi, hz0, hz1, hz2⟩ := info_parts clints_info
  have HC := Lib.hid (icopy_any A m c xs w hm hx (by omega) h0)
  have HM := Lib.hid hm
  clear hx hm h0
  go_enter Tryz.func19, Tryz.ntmps19
  go_wp2_with fail
  refine HC.out.mono ?_
  rintro e w1 ⟨v, rfl, hown, hb1⟩
  have HOWN := Lib.hid hown
  clear hown
  go_wp2_with (at_builtin; refine wpList_append_lies _ rfl (.tmp 4) (.tmp 5) 39 rfl w.heap.size 3 i0 (.int .i64 0) 1 8 Tryz.underlying39 hi hz0 hz1 hz2 rfl (by omega) _ m _ rfl (HOWN.out.alloc _) ⟨w1.heap.size, 0, none⟩ 1 1 [.int .i64 (-77)] rfl rfl ?c1 ?c2 (by omega) (by unfold maxLen; omega) (by omega) (by have := hb1.size; simp; omega) _ rfl ?_)
  case c1 =>
    intro a u ha
    match a, ha with
    | 0, ha => simp at ha; subst ha; simp [Addr.add]
  case c2 => intro u hu; simp at hu; subst hu; rfl
  intro g cap w2 hown2 hg2 hor hlt2
  have hb2 : Below w.heap.size w w2 := (hb1.alloc hb1.size _).grown hg2 (by have := hb1.size; simp; omega) (fun k hk => (HOWN.out.lt k hk).1)
  have hform : m + 1 ≤ cap ∧ cap ≤ 9223372036854775807 ∧ w.heap.size ≤ g := by
    rcases hown2.2 with ⟨h, _⟩ | ⟨g', cap', cur, h, hg', _, h1, h2, _⟩
    · cases h
    · injection h with e1 e2 e3
      injection e1 with e1
      injection e1 with e1
      subst e1 e3
      exact ⟨h1, h2, hg'⟩
  obtain ⟨hc1, hc2, hc3⟩ := hform
  have hlent : LentI w2 w.heap.size g cap xs := by
    refine ⟨hc3, hlt2, by rw [HM.out]; exact hc1, hc2, fun j x hx => ?_⟩
    have := hown2.cells (g := g) rfl j (.int .i64 x) (by
      rw [show xs.map (Value.int .i64) ++ [Value.int .i64 (-77)] = (xs ++ [(-77 : Int)]).map (Value.int .i64) by simp, List.getElem?_map, hx]
      rfl)
    rw [Go.WideShapes.add_plain, Nat.zero_add] at this
    exact this
  have HL := Lib.hid hlent
  clear hlent hown2 hg2 hor hb1
  go_wp2_with fail
  go_ret
  exact ⟨g, cap, rfl, HL.out, hb2⟩

set_option maxRecDepth 100000 in
set_option maxHeartbeats 1000000 in
theorem isame_any (A B : Option Addr) (m c d : Nat) (xs : List Int) (w : World) (hm : xs.length = m) (hx : IntsD w A xs) (hy : IntsD w B xs) (hl : m ≤ 1000000) :
    Calls Tryz.prog 39 #[.slice A m c, .slice B m d] w fun e w' => e = .returned (.bool true) ∧ ∃ n, w' = w.drewN n := by
  have HX := Lib.hid hx
  have HY := Lib.hid hy
  have HM := Lib.hid hm
  clear hx hm hy
  go_enter Tryz.func39, Tryz.ntmps39
  go_wp2_with fail
  go_loopw [5] (fun i wr => ∃ (j n : Nat), j ≤ m ∧ i = .int .i64 j ∧ wr = w.drewN n) (fun i _ => m - (intOf i).toNat)
  case atStart => exact ⟨0, 0, Nat.zero_le _, rfl, rfl⟩
  case round =>
    obtain ⟨j, n, hj, rfl, rfl⟩ := hrel
    by_cases hlt : j < m
    · have hxl : j < xs.length := by rw [HM.out]; exact hlt
      obtain ⟨b, off, hA, hbB, hc⟩ := HX.out (by omega)
      obtain ⟨b', off', hA', hbB', hc'⟩ := HY.out (by omega)
      obtain ⟨x, hx⟩ : ∃ x, x = xs[j] := ⟨_, rfl⟩
      have hxj : xs[j]? = some x := by rw [hx]; exact List.getElem?_eq_getElem hxl
      have hcx : w.cell? ⟨b, off + j, none⟩ = some (.int .i64 x) := hc j x hxj
      have hcy : w.cell? ⟨b', off' + j, none⟩ = some (.int .i64 x) := hc' j x hxj
      clear hxj hc hx hc'
      subst hA
      subst hA'
      go_wp2_with fail
      go_quiet (fail)
      go_wp2_with fail
      go_roundw
      case rel => exact ⟨j + 1, _, by omega, by go_num, rfl⟩
      case measure => simp [intOf]; omega
    · obtain rfl : j = m := by omega
      go_wp2_with fail
      go_ret
      exact ⟨rfl, _, rfl⟩

set_option maxRecDepth 100000 in
set_option maxHeartbeats 1000000 in
theorem istays_any (g cap : Nat) (A : Option Addr) (m d : Nat) (xs : List Int) (B0 : Nat) (w : World) (hm : xs.length = m) (hL : LentI w B0 g cap xs) (hx : IntsD w A xs) (hl : m ≤ 1000000) :
    Calls Tryz.prog 21 #[.slice (some ⟨g, 0, none⟩) m cap, .slice A m d] w fun e w' => e = .returned (.bool true) ∧ ∃ n, w' = w.drewN n := by
  have HS := Lib.hid (isame_any (some ⟨g, 0, none⟩) A m cap d xs w hm hL.ints hx hl)
  obtain ⟨h0, h1, h2, h3, h4⟩ := hL
  have hc : w.cell? ⟨g, m, none⟩ = some (.int .i64 (-77)) := h4 m _ (by rw [List.getElem?_append_right (by omega), hm, Nat.sub_self]; rfl)
  have h2' : m + 1 ≤ cap := by omega
  clear hx hm h0 h4 h2
  go_enter Tryz.func21, Tryz.ntmps21
  go_wp2_with fail
  refine HS.out.mono ?_
  rintro e w1 ⟨rfl, n, rfl⟩
  go_wp2_with fail
  go_ret
  exact ⟨rfl, n, rfl⟩
end Go.Proofs.YtdibeieiogagoaaGreatDoor
