/-
  The statements' helper over lists of texts (package masonrybook): few and short enough, joined, lent, as they were.
-/
import Derived.Test.YtkcjiogackkecaaTxts
import Derived.BigCall
import Derived.Deep.AppendLies
import Derived.Deep.RegionHeld3
import Derived.Deep.QuietTactic
import Derived.BigQuiet
namespace Go.Proofs.Ytkcjiogackkecaa
open Go.RowKit

/-- Room of one length. -/
def roomLeft (left x : Int) : Int := if left < 0 ∨ left < x then -1 else left - x

set_option maxRecDepth 100000 in
set_option maxHeartbeats 1000000 in
theorem room_one (left x : Int) (b : Nat) (w : World) (hc : w.cell? ⟨b, 0, none⟩ = some (.int .i64 x)) (h0 : -1 ≤ left) (h1 : left ≤ 1000000) (h2 : 0 ≤ x) (_h3 : x ≤ 9223372036854775807) :
    Calls Try.prog 31 #[.int .i64 left, .slice (some ⟨b, 0, none⟩) 1 1] w fun e w' => e = .returned (.int .i64 (roomLeft left x)) ∧ w = w' := by
  go_enter Try.func31, Try.ntmps31
  go_wp2_with fail
  by_cases hneg : left < 0
  · have hr : roomLeft left x = -1 := by unfold roomLeft; rw [if_pos (.inl hneg)]
    have HR := Lib.hid hr
    clear hr
    go_loop [0, 5] (fun v i => v = .int .i64 left ∧ i = .int .i64 0) (fun _ i => 1 - (intOf i).toNat)
    case atStart => exact ⟨rfl, rfl⟩
    case round =>
      obtain ⟨rfl, rfl⟩ := hrel
      go_wp2_with fail
      go_ret
      rw [HR.out]
      exact ⟨rfl, rfl⟩
  · by_cases hbig : left < x
    · have hr : roomLeft left x = -1 := by unfold roomLeft; rw [if_pos (.inr hbig)]
      have HR := Lib.hid hr
      have hpos : 0 ≤ left := by omega
      clear hr hneg
      go_loop [0, 5] (fun v i => v = .int .i64 left ∧ i = .int .i64 0) (fun _ i => 1 - (intOf i).toNat)
      case atStart => exact ⟨rfl, rfl⟩
      case round =>
        obtain ⟨rfl, rfl⟩ := hrel
        go_wp2_with fail
        go_ret
        rw [HR.out]
        exact ⟨rfl, rfl⟩
    · have hr : roomLeft left x = left - x := by unfold roomLeft; rw [if_neg (by omega)]
      have HR := Lib.hid hr
      have hpos : 0 ≤ left := by omega
      have hle : x ≤ left := by omega
      clear hr hneg hbig
      go_loop [0, 5] (fun v i => (v = .int .i64 left ∧ i = .int .i64 0) ∨ (v = .int .i64 (left - x) ∧ i = .int .i64 1)) (fun _ i => 1 - (intOf i).toNat)
      case atStart => exact .inl ⟨rfl, rfl⟩
      case round =>
        rcases hrel with ⟨rfl, rfl⟩ | ⟨rfl, rfl⟩
        · go_wp2_with fail
          go_round
          case rel => exact .inr ⟨rfl, rfl⟩
          case measure => simp [intOf]
        · go_wp2_with fail
          go_ret
          rw [HR.out]
          exact ⟨rfl, rfl⟩

/-- Some truth value; if it is true, the texts are few and short. -/
def SaysShort (few room : Int) (xs : List ByteArray) (e : Ending) : Prop := ∃ r : Bool, e = .returned (.bool r) ∧ (r = true → (xs.length : Int) ≤ few ∧ ((cats xs).length : Int) ≤ room)

set_option maxRecDepth 100000 in
set_option maxHeartbeats 4000000 in
theorem short_any (few room : Int) (A : Option Addr) (m c : Nat) (xs : List ByteArray) (w : World) (hm : xs.length = m) (hx : Txts w w.heap.size A xs) (hsz : ∀ x ∈ xs, x.size ≤ 9223372036854775807) (hl : m ≤ 9223372036854775807)
    (hf0 : 0 ≤ few) (hf1 : few ≤ 1000000) (hr0 : 0 ≤ room) (hr1 : room ≤ 1000000) :
    Calls Try.prog 9 #[.int .i64 few, .int .i64 room, .slice A m c] w fun e w' => SaysShort few room xs e ∧ Below w.heap.size w w' := by
  have HX := Lib.hid hx
  have HZ := Lib.hid hsz
  have HM := Lib.hid hm
  clear hx hsz hm
  by_cases hfew : few < (m : Int)
  · go_enter Try.func9, Try.ntmps9
    go_wp2_with fail
    go_ret
    exact ⟨⟨false, rfl, fun h => by cases h⟩, Below.refl _ _⟩
  · have hle : (m : Int) ≤ few := by omega
    clear hfew
    go_enter Try.func9, Try.ntmps9
    go_wp2_with fail
    go_loopw [1, 7] (fun v i wr => ∃ (r : Int) (j : Nat), j ≤ m ∧ i = .int .i64 j ∧ v = .int .i64 r ∧ -1 ≤ r ∧ r ≤ 1000000 ∧ (0 ≤ r → r + (cats (xs.take j)).length = room) ∧ Below w.heap.size w wr) (fun _ i _ => m - (intOf i).toNat)
    case atStart => exact ⟨room, 0, Nat.zero_le _, rfl, rfl, by omega, hr1, fun _ => by simp [cats], Below.refl _ _⟩
    case round =>
      obtain ⟨r, j, hj, rfl, rfl, r0, r1, hsum, hbr⟩ := hrel
      have HSUM := Lib.hid hsum
      clear hsum
      by_cases hlt : j < m
      · by_cases hneg : 0 ≤ r
        · have hxl : j < xs.length := by rw [HM.out]; exact hlt
          obtain ⟨b, off, hA, hbB, hc⟩ := HX.out (by omega)
          obtain ⟨x, hx⟩ : ∃ x, x = xs[j] := ⟨_, rfl⟩
          have hxj : xs[j]? = some x := by rw [hx]; exact List.getElem?_eq_getElem hxl
          have hcx : wr.cell? ⟨b, off + j, none⟩ = some (.string x) := (hbr.cell (p := ⟨b, off + j, none⟩) hbB).trans (hc j x hxj)
          have hsx := HZ.out x (by rw [hx]; exact List.getElem_mem hxl)
          have E1 := Lib.hid (cats_snoc hxj)
          clear hxj hc hx
          subst hA
          go_wp2_with fail
          refine (room_one r x.size wr.heap.size _ (by simp [go_sem]) r0 r1 (by omega) (by omega)).mono ?_
          rintro e w1 ⟨rfl, rfl⟩
          obtain ⟨q, hq⟩ : ∃ q, q = roomLeft r x.size := ⟨_, rfl⟩
          rw [← hq]
          have hq0 : -1 ≤ q ∧ q ≤ 1000000 ∧ (0 ≤ q → q = r - x.size) := by
            rw [hq]
            unfold roomLeft
            split <;> refine ⟨by omega, by omega, fun h => ?_⟩ <;> omega
          obtain ⟨q0, q1, q2⟩ := hq0
          have HQ := Lib.hid q2
          clear hq q2
          have hb1 : Below w.heap.size w (wr.alloc (.cells #[.int .i64 x.size] 3)) := hbr.alloc hbr.size _
          go_wp2_with fail
          go_roundw
          case rel => exact ⟨q, j + 1, by omega, by go_num, rfl, q0, q1, fun h => by rw [E1.out, List.length_append, ← Lib.size_eq, HQ.out h]; have := HSUM.out hneg; omega, hb1⟩
          case measure => simp [intOf]; omega
        · have hneg' : r < 0 := by omega
          have hd : decide (0 ≤ r) = false := by simpa using hneg'
          clear hneg
          go_wp2_with fail
          go_ret
          exact ⟨⟨false, by simp, fun h => by cases h⟩, hbr⟩
      · obtain rfl : j = m := by omega
        have htk : xs.take j = xs := List.take_of_length_le (by rw [HM.out]; exact Nat.le_refl _)
        rw [htk] at HSUM
        clear htk
        go_wp2_with fail
        go_ret
        exact ⟨⟨decide (0 ≤ r), rfl, fun h => ⟨by rw [HM.out]; exact hle, by have := HSUM.out (by simpa using h); have := of_decide_eq_true h; omega⟩⟩, hbr⟩

/-- All texts, one behind the other. -/
def joined (xs : List ByteArray) : ByteArray := ⟨(cats xs).toArray⟩
theorem joined_list (xs : List ByteArray) : (joined xs).data.toList = cats xs := rfl
theorem joined_size (xs : List ByteArray) : (joined xs).size = (cats xs).length := by rw [Lib.size_eq]; rfl
theorem joined_snoc {xs : List ByteArray} {j : Nat} {x : ByteArray} (h : xs[j]? = some x) : joined (xs.take j) ++ x = joined (xs.take (j + 1)) := by
  apply ByteArray.ext
  apply Array.toList_inj.1
  rw [ByteArray.data_append, Array.toList_append, joined_list, joined_list, cats_snoc h]

set_option maxRecDepth 100000 in
set_option maxHeartbeats 1000000 in
theorem join_any (A : Option Addr) (m c : Nat) (xs : List ByteArray) (w : World) (hm : xs.length = m) (hx : Txts w w.heap.size A xs) (hl : m ≤ 1000000) (hs : (cats xs).length ≤ 140737488351232) :
    Calls Try.prog 11 #[.slice A m c] w fun e w' => e = .returned (.string (joined xs)) ∧ w = w' := by
  have HX := Lib.hid hx
  have HM := Lib.hid hm
  have HS := Lib.hid hs
  clear hx hm hs
  go_enter Try.func11, Try.ntmps11
  go_wp2_with fail
  go_loop [3, 4] (fun v i => ∃ j : Nat, j ≤ m ∧ i = .int .i64 j ∧ v = .string (joined (xs.take j))) (fun _ i => m - (intOf i).toNat)
  case atStart => exact ⟨0, Nat.zero_le _, rfl, rfl⟩
  case round =>
    obtain ⟨j, hj, rfl, rfl⟩ := hrel
    by_cases hlt : j < m
    · have hxl : j < xs.length := by rw [HM.out]; exact hlt
      obtain ⟨b, off, hA, hbB, hc⟩ := HX.out (by omega)
      obtain ⟨x, hx⟩ : ∃ x, x = xs[j] := ⟨_, rfl⟩
      have hxj : xs[j]? = some x := by rw [hx]; exact List.getElem?_eq_getElem hxl
      have hcx : w.cell? ⟨b, off + j, none⟩ = some (.string x) := hc j x hxj
      have E1 := Lib.hid (joined_snoc hxj)
      have hsz : (joined (xs.take j)).size + x.size ≤ 9223372036854775807 := by have := cats_len hxj; have := HS.out; rw [joined_size]; omega
      obtain ⟨J, hJ⟩ : ∃ J, J = joined (xs.take j) := ⟨_, rfl⟩
      rw [← hJ] at hsz ⊢
      have HJ := Lib.hid hJ
      clear hxj hc hx hJ
      subst hA
      go_wp2_with fail
      go_round
      case rel => exact ⟨j + 1, by omega, by go_num, by rw [← E1.out, HJ.out]⟩
      case measure => simp [intOf]; omega
    · obtain rfl : j = m := by omega
      have htk : xs.take j = xs := List.take_of_length_le (by rw [HM.out]; exact Nat.le_refl _)
      rw [htk]
      clear htk
      go_wp2_with fail
      go_ret
      exact ⟨rfl, rfl⟩

theorem text_info : (Try.prog.info? 9).map (fun i => (i.zero, i.size, i.bytes)) = some (some (.string .empty), 1, 16) := by kernel_rfl
theorem texts_cells {w : World} {B b off : Nat} {xs : List ByteArray} (hc : ∀ (j : Nat) (x : ByteArray), xs[j]? = some x → w.cell? ⟨b, off + j, none⟩ = some (.string x)) (_hB : b < B) :
    ∀ (j : Nat) (u : Value), (xs.map Value.string)[j]? = some u → w.cell? ((⟨b, off, none⟩ : Addr).add j) = some u := by
  intro j u hu
  rw [List.getElem?_map] at hu
  obtain ⟨x, hx, rfl⟩ := Option.map_eq_some_iff.1 hu
  rw [Go.WideShapes.add_plain]
  exact hc j x hx

/-- A list lent: it lies in a block of its own, with a mark behind it that it has room for. -/
def Lent (w : World) (B g cap : Nat) (xs : List ByteArray) : Prop :=
  B ≤ g ∧ g < w.heap.size ∧ xs.length + 1 ≤ cap ∧ cap ≤ 9223372036854775807 ∧ ∀ (j : Nat) (x : ByteArray), (xs ++ [⟨#[109, 97, 114, 107]⟩])[j]? = some x → w.cell? ⟨g, j, none⟩ = some (.string x)
theorem Lent.below {w w' : World} {B g cap : Nat} {xs : List ByteArray} (h : Lent w B g cap xs) (hb : Below w.heap.size w w') : Lent w' B g cap xs := by
  obtain ⟨h0, h1, h2, h3, h4⟩ := h
  exact ⟨h0, Nat.lt_of_lt_of_le h1 hb.size, h2, h3, fun j x hx => (hb.cell (p := ⟨g, j, none⟩) h1).trans (h4 j x hx)⟩
theorem Lent.txts {w : World} {B g cap : Nat} {xs : List ByteArray} (h : Lent w B g cap xs) : Txts w w.heap.size (some ⟨g, 0, none⟩) xs := by
  obtain ⟨h0, h1, h2, h3, h4⟩ := h
  intro _
  refine ⟨g, 0, rfl, h1, fun j x hx => ?_⟩
  rw [Nat.zero_add]
  have hj : j < xs.length := by
    rcases Nat.lt_or_ge j xs.length with h | h
    · exact h
    · rw [List.getElem?_eq_none h] at hx; cases hx
  exact h4 j x (by rw [List.getElem?_append_left hj]; exact hx)


set_option maxRecDepth 100000 in
set_option maxHeartbeats 1000000 in
theorem same_any (A B : Option Addr) (m c d : Nat) (xs : List ByteArray) (w : World) (hm : xs.length = m) (hx : Txts w w.heap.size A xs) (hy : Txts w w.heap.size B xs) (hl : m ≤ 1000000) :
    Calls Try.prog 85 #[.slice A m c, .slice B m d] w fun e w' => e = .returned (.bool true) ∧ ∃ n, w' = w.drewN n := by
  have HX := Lib.hid hx
  have HY := Lib.hid hy
  have HM := Lib.hid hm
  clear hx hm hy
  go_enter Try.func85, Try.ntmps85
  go_wp2_with fail
  go_loopw [5] (fun i wr => ∃ (j n : Nat), j ≤ m ∧ i = .int .i64 j ∧ wr = w.drewN n) (fun i _ => m - (intOf i).toNat)
  case atStart => exact ⟨0, 0, Nat.zero_le _, rfl, rfl⟩
  case round =>
    obtain ⟨j, n, hj, rfl, rfl⟩ := hrel
    by_cases hlt : j < m
    · have hxl : j < xs.length := by rw [HM.out]; exact hlt
      obtain ⟨b, off, hA, hbB, hc⟩ := HX.out (by omega)
      obtain ⟨b', off', hA', hbB', hc'⟩ := HY.out (by omega)
      obtain ⟨x, hx⟩ : ∃ x, x = xs[j] := ⟨_, rfl⟩
      have hxj : xs[j]? = some x := by rw [hx]; exact List.getElem?_eq_getElem hxl
      have hcx : w.cell? ⟨b, off + j, none⟩ = some (.string x) := hc j x hxj
      have hcy : w.cell? ⟨b', off' + j, none⟩ = some (.string x) := hc' j x hxj
      clear hxj hc hx hc'
      subst hA
      subst hA'
      go_wp2_with fail
      go_quiet (fail)
      go_wp2_with fail
      go_roundw
      case rel => exact ⟨j + 1, _, by omega, by go_num, rfl⟩
      case measure => simp [intOf]; omega
    · obtain rfl : j = m := by omega
      go_wp2_with fail
      go_ret
      exact ⟨rfl, _, rfl⟩

end Go.Proofs.Ytkcjiogackkecaa
