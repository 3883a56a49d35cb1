/-
  Lists of numbers that came in as an argument. No statement is proved here.
-/
import Derived.Test.YtpepabggpappgaaDoorHeadTurnsWalk
import Derived.Test.YtpepabggpappgaaDoorViews
import Derived.Deep.Slices
namespace Go.Proofs.YtpepabggpappgaaDoor
open Go.ChangeShapes Go.WideShapes Go.ChangeAt Go.RowKit
open Go.WideMaps Go.WideElems
open Go.Deep

theorem cellsInt8 : Tryd.prog.cellsOf 3 = 1 := by kernel_rfl
theorem cellsInts8 : Tryd.prog.cellsOf 24 = 1 := by kernel_rfl

theorem cells_ints8 {H : Type} {enc : TypeId × Value → H} {W : World} {cs : List Value} {fuel : Nat} {x : DataW H × List MemPlace} (h : DataW.trod enc Tryd.prog W 0 (fun _ => true) true fuel 24 cs = some x) :
    ∃ r : RowD, cs = [.slice r.ra r.l.length r.rc] ∧ Ints W W.heap.size r.ra r.l ∧ (r.ra = none → r.l.length = 0 ∧ r.rc = 0) := by
  rcases open_ints Tryd.underlying24 Tryd.underlying3 cellsInt8 h with ⟨hcs, _⟩ | ⟨a', len, cap, zs, hcs, _, hl, hcap, hz, _, hc, hw⟩
  · exact ⟨⟨none, 0, []⟩, hcs, (fun h => by cases h), fun _ => ⟨rfl, rfl⟩⟩
  · simp only [if_true] at hz
    have hlen : (zs.take len).length = len := by rw [List.length_take]; omega
    refine ⟨⟨some a', cap, zs.take len⟩, by rw [hlen]; exact hcs, ?_, (fun e => by cases e)⟩
    intro hpos
    rw [hlen] at hpos
    obtain ⟨b, off, rfl, hb, hc'⟩ := plain_at hc (by omega)
    refine ⟨b, off, rfl, hb, fun j x hx => ?_⟩
    have hx : (zs.take len)[j]? = some x := hx
    rw [List.getElem?_take] at hx
    split at hx
    · have := hc' j (by omega)
      rw [this, List.getD_eq_getElem?_getD, hx]
      rfl
    · cases hx

instance : Inhabited RowD := ⟨⟨none, 0, []⟩⟩
structure RowsIn (w : World) (A : Option Addr) (n : Nat) (rs : List RowD) : Prop where
  lie : Rows8 w w.heap.size A rs
  len : rs.length = n
  few : n ≤ 9223372036854775807
theorem view_rows {H : Type} {enc : TypeId × Value → H} {W : World} {a : Option Addr} {n c : Nat} {d : DataW H} {p : List MemPlace} (h : DataW.Trod enc Tryd.prog W 0 (fun _ => true) true 22 (.slice a n c) d p) :
    ∃ rs : List RowD, RowsIn W a n rs := by
  obtain ⟨fuel, hf⟩ := h
  rcases open_slice Tryd.underlying22 hf with ⟨hcs, _⟩ | ⟨a', len, cap, m, k, D, Pl, hcs, _, hl, hcap, hm, _, hx⟩
  · simp [Value.cells] at hcs
    obtain ⟨rfl, rfl, rfl⟩ := hcs
    exact ⟨[], (fun h => by cases h), rfl, by simp⟩
  · simp [Value.cells] at hcs
    obtain ⟨rfl, rfl, rfl⟩ := hcs
    simp only [if_true] at hm
    subst hm
    have hmax : maxLen = 9223372036854775807 := rfl
    obtain ⟨F, hF⟩ := choose_lt (α := RowD) (n := n) (p := fun i r => W.cell? (a'.add i) = some (.slice r.ra r.l.length r.rc) ∧ Ints W W.heap.size r.ra r.l ∧ (r.ra = none → r.l.length = 0 ∧ r.rc = 0)) (fun i hi => by
      obtain ⟨cs', h1, h2⟩ := hx i (by omega)
      obtain ⟨r, hr, h3, h4⟩ := cells_ints8 h2
      rw [cellsInts8, Nat.mul_one] at h1
      obtain ⟨_, _, hc⟩ := World.cells?_some h1
      have hc0 : W.cell? ((a'.add i).add 0) = [Value.slice r.ra r.l.length r.rc][0]? := by rw [← hr]; exact hc 0 (by omega)
      rw [Addr.add_add, Nat.add_zero] at hc0
      exact ⟨r, hc0, h3, h4⟩)
    have hlen : ((List.range n).map F).length = n := by simp
    refine ⟨(List.range n).map F, ?_, hlen, by omega⟩
    intro hpos
    rw [hlen] at hpos
    obtain ⟨b, off, spot⟩ := a'
    have h00 := (hF 0 hpos).1
    have hspot : spot = none := by
      have := World.cell?_spot h00
      simpa [Addr.add] using this
    subst hspot
    have hb : b < W.heap.size := by
      rw [Go.WideShapes.add_plain] at h00
      exact World.block_lt_of_cell? W _ h00
    refine ⟨b, off, rfl, hb, fun j d hd => ?_⟩
    rw [List.getElem?_map] at hd
    obtain ⟨i, hi, rfl⟩ := Option.map_eq_some_iff.1 hd
    have hij : j < n ∧ j = i := by
      by_cases hj : j < n
      · rw [List.getElem?_range hj] at hi
        exact ⟨hj, Option.some.inj hi⟩
      · rw [List.getElem?_eq_none (by simp; omega)] at hi; cases hi
    obtain ⟨hj, rfl⟩ := hij
    obtain ⟨hc, ht, h0⟩ := hF j hj
    rw [Go.WideShapes.add_plain] at hc
    exact ⟨hc, ht, h0⟩
theorem hturns_card (A : Option Addr) (n c : Nat) (rs : List RowD) (w : World) (h : RowsIn w A n rs) :
    Calls Tryd.prog 3 #[.slice A n c] w fun e w' => e = .returned (.bool true) ∧ Below w.heap.size w w' := hturns_any A n c rs w h.len h.lie h.few
end Go.Proofs.YtpepabggpappgaaDoor
