/-
  Acts that came in as an argument. No statement is proved here.
-/
import Derived.Test.YtpepabggpappgaaPlayWalk
import Derived.Test.YtpepabggpappgaaDiskViews
import Derived.Deep.SlicePairs
import Derived.Deep.Slices
import Derived.Lib.SmallJoins
namespace Go.Proofs.Ytpepabggpappgaa
open Go.ChangeShapes Go.WideShapes Go.ChangeAt Go.RowKit
open Go.WideMaps Go.WideElems
open Go.Deep

set_option maxRecDepth 100000 in
theorem cellsOp7 : Try.prog.cellsOf 34 = 5 := by kernel_rfl
set_option maxRecDepth 100000 in
theorem cellsWrite7 : Try.prog.cellsOf 42 = 2 := by kernel_rfl
theorem cellsStr7 : Try.prog.cellsOf 9 = 1 := by kernel_rfl
theorem cellsBool7 : Try.prog.cellsOf 4 = 1 := by kernel_rfl
theorem cellsInts7 : Try.prog.cellsOf 32 = 1 := by kernel_rfl
theorem cellsWrites7 : Try.prog.cellsOf 31 = 1 := by kernel_rfl

/-- Numbers that came in, from the cells of their slice. -/
theorem cells_ints7 {H : Type} {enc : TypeId × Value → H} {W : World} {cs : List Value} {fuel : Nat} {x : DataW H × List MemPlace} (h : DataW.trod enc Try.prog W 0 (fun _ => true) true fuel 32 cs = some x) :
    ∃ (a : Option Addr) (c : Nat) (l : List Int), cs = [.slice a l.length c] ∧ Low W W.heap.size a l ∧ (a = none → l.length = 0 ∧ c = 0) ∧ l.length ≤ 9223372036854775807 := by
  rcases open_ints Try.underlying32 Try.underlying3 cellsInt h with ⟨hcs, _⟩ | ⟨a', len, cap, zs, hcs, _, hl, hcap, hz, _, hc, hw⟩
  · exact ⟨none, 0, [], hcs, (fun h => by cases h), fun _ => ⟨rfl, rfl⟩, by simp⟩
  · simp only [if_true] at hz
    have hmax : maxLen = 9223372036854775807 := rfl
    have hlen : (zs.take len).length = len := by rw [List.length_take]; omega
    refine ⟨some a', cap, zs.take len, by rw [hlen]; exact hcs, ?_, (fun e => by cases e), by omega⟩
    intro hpos
    rw [hlen] at hpos
    obtain ⟨b, off, rfl, hb, hc'⟩ := plain_at hc (by omega)
    refine ⟨b, off, rfl, hb, hb, fun j x hx => ?_⟩
    rw [List.getElem?_take] at hx
    split at hx
    · have := hc' j (by omega)
      rw [this, List.getD_eq_getElem?_getD, hx]
      rfl
    · cases hx
/-- Writes that came in. -/
theorem cells_writes7 {H : Type} {enc : TypeId × Value → H} {W : World} {cs : List Value} {fuel : Nat} {x : DataW H × List MemPlace} (h : DataW.trod enc Try.prog W 0 (fun _ => true) true fuel 31 cs = some x) :
    ∃ (a : Option Addr) (c : Nat) (l : List (Int × ByteArray)), cs = [.slice a l.length c] ∧ LowW W W.heap.size a l ∧ (a = none → c = 0) ∧ l.length ≤ 9223372036854775807 ∧ ∀ x ∈ l, x.2.size ≤ 9223372036854775807 := by
  rcases open_slice_pairs Try.underlying31 Try.underlying42 cellsWrite7 rfl rfl cellsInt cellsStr7 h with ⟨hcs, _⟩ | ⟨a', len, cap, m, n, V0, V1, D0, D1, P0, P1, hcs, _, hl, hcap, hm, _, hx⟩
  · exact ⟨none, 0, [], hcs, (fun h => by cases h), fun _ => rfl, by simp, by simp⟩
  · simp only [if_true] at hm
    subst hm
    have hmax : maxLen = 9223372036854775807 := rfl
    obtain ⟨F, hF⟩ := choose_lt (α := Int × ByteArray) (n := len) (p := fun i x => W.cell? (a'.add (i * 2)) = some (.int .i64 x.1) ∧ W.cell? (a'.add (i * 2 + 1)) = some (.string x.2) ∧ x.2.size ≤ 9223372036854775807) (fun i hi => by
      obtain ⟨h1, h2, h3, h4⟩ := hx i (by omega)
      obtain ⟨k, e0, _, _⟩ := DataW.trod_int Try.underlying3 h3
      obtain ⟨s, e1, _, ws⟩ := DataW.trod_string Try.underlying9 h4
      injection e0 with e0
      injection e1 with e1
      rw [e0] at h1
      rw [e1] at h2
      exact ⟨(k, s), h1, h2, by show s.size ≤ _; rw [← hmax]; exact ws⟩)
    have hlen : ((List.range len).map F).length = len := by simp
    refine ⟨some a', m, (List.range len).map F, by rw [hlen]; exact hcs, ?_, (fun e => by cases e), by omega, ?_⟩
    · intro hpos
      rw [hlen] at hpos
      obtain ⟨b, off, spot⟩ := a'
      have h00 := (hF 0 hpos).1
      have hspot : spot = none := by
        have := World.cell?_spot h00
        simpa [Addr.add] using this
      subst hspot
      have hb : b < W.heap.size := by
        rw [Go.WideShapes.add_plain] at h00
        exact World.block_lt_of_cell? W _ h00
      refine ⟨b, off, rfl, hb, hb, fun j x hx => ?_⟩
      rw [List.getElem?_map] at hx
      obtain ⟨i, hi, rfl⟩ := Option.map_eq_some_iff.1 hx
      have hij : j < len ∧ j = i := by
        by_cases hj : j < len
        · rw [List.getElem?_range hj] at hi
          exact ⟨hj, Option.some.inj hi⟩
        · rw [List.getElem?_eq_none (by simp; omega)] at hi; cases hi
      obtain ⟨hj, rfl⟩ := hij
      obtain ⟨q1, q2, _⟩ := hF j hj
      rw [Go.WideShapes.add_plain] at q1 q2
      exact ⟨q1, by rw [Nat.add_assoc]; exact q2⟩
    · intro x hx
      obtain ⟨i, hi, rfl⟩ := List.mem_map.1 hx
      exact (hF i (List.mem_range.1 hi)).2.2
theorem five7 (cs : List Value) (h : cs.length = 5) : ∃ v0 v1 v2 v3 v4, cs = [v0, v1, v2, v3, v4] := by
  match cs, h with
  | [v0, v1, v2, v3, v4], _ => exact ⟨v0, v1, v2, v3, v4, rfl⟩
theorem five8 {α : Type} (cs : List α) (h : cs.length = 5) : ∃ v0 v1 v2 v3 v4, cs = [v0, v1, v2, v3, v4] := by
  match cs, h with
  | [v0, v1, v2, v3, v4], _ => exact ⟨v0, v1, v2, v3, v4, rfl⟩

set_option maxRecDepth 100000 in
/-- The cells of an act that came in. -/
theorem cells_op7 {H : Type} {enc : TypeId × Value → H} {W : World} {cs : List Value} {fuel : Nat} {x : DataW H × List MemPlace} (h : DataW.trod enc Try.prog W 0 (fun _ => true) true fuel 34 cs = some x) :
    ∃ d : OpD, cs = d.cells.toList ∧ d.In W W.heap.size ∧ d.Fits := by
  obtain ⟨xs, n, _, rfl, hl, hlen, hf⟩ := DataW.trod_struct Try.underlying34 h
  rw [cellsOp7] at hl
  obtain ⟨v0, v1, v2, v3, v4, rfl⟩ := five7 cs hl
  obtain ⟨y0, y1, y2, y3, y4, rfl⟩ := five8 xs hlen
  have h0 : DataW.trod enc Try.prog W 0 (fun _ => true) true n 3 (([v0, v1, v2, v3, v4].drop 0).take (Try.prog.cellsOf 3)) = some y0 := hf 0 _ rfl
  have h1 : DataW.trod enc Try.prog W 0 (fun _ => true) true n 3 (([v0, v1, v2, v3, v4].drop 1).take (Try.prog.cellsOf 3)) = some y1 := hf 1 _ rfl
  have h2 : DataW.trod enc Try.prog W 0 (fun _ => true) true n 31 (([v0, v1, v2, v3, v4].drop 2).take (Try.prog.cellsOf 31)) = some y2 := hf 2 _ rfl
  have h3 : DataW.trod enc Try.prog W 0 (fun _ => true) true n 4 (([v0, v1, v2, v3, v4].drop 3).take (Try.prog.cellsOf 4)) = some y3 := hf 3 _ rfl
  have h4 : DataW.trod enc Try.prog W 0 (fun _ => true) true n 32 (([v0, v1, v2, v3, v4].drop 4).take (Try.prog.cellsOf 32)) = some y4 := hf 4 _ rfl
  simp only [cellsInt, cellsInts7, cellsWrites7, cellsBool7, List.drop_zero, List.drop_succ_cons, List.take_succ_cons, List.take_zero] at h0 h1 h2 h3 h4
  obtain ⟨k, e0, _, w0⟩ := DataW.trod_int Try.underlying3 h0
  obtain ⟨a, e1, _, w1⟩ := DataW.trod_int Try.underlying3 h1
  obtain ⟨wa, wc, ws, e2, hw1, hw2, hw3, hw4⟩ := cells_writes7 h2
  obtain ⟨own, e3, _⟩ := DataW.trod_bool Try.underlying4 h3
  obtain ⟨la, lc, ls, e4, hl1, hl2, hl3⟩ := cells_ints7 h4
  injection e0 with e0
  injection e1 with e1
  injection e2 with e2
  injection e3 with e3
  injection e4 with e4
  subst e0 e1 e2 e3 e4
  exact ⟨⟨k, a, wa, wc, ws, own, la, lc, ls⟩, rfl, ⟨hw1, hw2, hl1, hl2⟩, ⟨bounds_i64 w0, bounds_i64 w1, hw3, hl3, hw4⟩⟩

instance : Inhabited OpD := ⟨⟨0, 0, none, 0, [], false, none, 0, []⟩⟩
/-- A list of acts that came in. -/
structure ActsIn (w : World) (A : Option Addr) (n : Nat) (ds : List OpD) : Prop where
  lie : Acts w w.heap.size A ds
  len : ds.length = n
  fits : ∀ d ∈ ds, d.Fits
  few : n ≤ 9223372036854775807
theorem view_acts {H : Type} {enc : TypeId × Value → H} {W : World} {a : Option Addr} {n c : Nat} {d : DataW H} {p : List MemPlace} (h : DataW.Trod enc Try.prog W 0 (fun _ => true) true 22 (.slice a n c) d p) :
    ∃ ds : List OpD, ActsIn W a n ds := by
  obtain ⟨fuel, hf⟩ := h
  rcases open_slice Try.underlying22 hf with ⟨hcs, _⟩ | ⟨a', len, cap, m, k, D, Pl, hcs, _, hl, hcap, hm, _, hx⟩
  · simp [Value.cells] at hcs
    obtain ⟨rfl, rfl, rfl⟩ := hcs
    exact ⟨[], (fun h => by cases h), rfl, (fun d hd => by cases hd), by simp⟩
  · simp [Value.cells] at hcs
    obtain ⟨rfl, rfl, rfl⟩ := hcs
    simp only [if_true] at hm
    subst hm
    have hmax : maxLen = 9223372036854775807 := rfl
    obtain ⟨F, hF⟩ := choose_lt (α := OpD) (n := n) (p := fun i d => (∀ j, j < 5 → W.cell? (a'.add (i * 5 + j)) = d.cells.toList[j]?) ∧ d.In W W.heap.size ∧ d.Fits) (fun i hi => by
      obtain ⟨cs', h1, h2⟩ := hx i (by omega)
      obtain ⟨d, hd, ht, hfit⟩ := cells_op7 h2
      rw [cellsOp7] at h1
      obtain ⟨_, _, hc⟩ := World.cells?_some h1
      refine ⟨d, fun j hj => ?_, ht, hfit⟩
      rw [← Addr.add_add, hc j hj, hd])
    have hlen : ((List.range n).map F).length = n := by simp
    refine ⟨(List.range n).map F, ?_, hlen, ?_, by omega⟩
    · intro hpos
      rw [hlen] at hpos
      obtain ⟨b, off, spot⟩ := a'
      have h00 := (hF 0 hpos).1 0 (by omega)
      have hspot : spot = none := by
        have := World.cell?_spot h00
        simpa [Addr.add] using this
      subst hspot
      have hb : b < W.heap.size := by
        rw [Go.WideShapes.add_plain] at h00
        exact World.block_lt_of_cell? W _ h00
      refine ⟨b, off, rfl, hb, hb, fun j d hd => ?_⟩
      rw [List.getElem?_map] at hd
      obtain ⟨i, hi, rfl⟩ := Option.map_eq_some_iff.1 hd
      have hij : j < n ∧ j = i := by
        by_cases hj : j < n
        · rw [List.getElem?_range hj] at hi
          exact ⟨hj, Option.some.inj hi⟩
        · rw [List.getElem?_eq_none (by simp; omega)] at hi; cases hi
      obtain ⟨hj, rfl⟩ := hij
      obtain ⟨hc, ht, _⟩ := hF j hj
      have q : ∀ i, i < 5 → W.cell? ⟨b, off + j * 5 + i, none⟩ = (F j).cells.toList[i]? := fun i hi => by
        rw [← hc i hi, Go.WideShapes.add_plain, Nat.add_assoc]
      exact ⟨⟨q 0 (by omega), q 1 (by omega), q 2 (by omega), q 3 (by omega), q 4 (by omega)⟩, ht⟩
    · intro d hd
      obtain ⟨i, hi, rfl⟩ := List.mem_map.1 hd
      exact (hF i (List.mem_range.1 hi)).2.2
theorem dplays_card (q : Int) (A : Option Addr) (m c : Nat) (ds : List OpD) (at_ : Int) (w : World) (_h0 : -9223372036854775808 ≤ q ∧ q ≤ 9223372036854775807) (h : ActsIn w A m ds) (_h2 : -9223372036854775808 ≤ at_ ∧ at_ ≤ 9223372036854775807) :
    Calls Try.prog 3 #[.int .i64 q, .slice A m c, .int .i64 at_] w fun e w' => e = .returned (.bool true) ∧ Below w.heap.size w w' := dplays_any q A m c at_ ds w h.lie h.len h.fits h.few
end Go.Proofs.Ytpepabggpappgaa
