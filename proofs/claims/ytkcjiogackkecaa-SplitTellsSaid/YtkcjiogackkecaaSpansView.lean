/-
  Lists of spans that came in as arguments. No statement is proved here.
-/
import Derived.Test.YtkcjiogackkecaaIntsView
import Derived.Test.YtkcjiogackkecaaSpanList
import Derived.Deep.SlicePairs
import Derived.Deep.Slices
import Derived.Lib.SmallJoins
namespace Go.Proofs.Ytkcjiogackkecaa
open Go.ChangeShapes Go.WideShapes Go.ChangeAt Go.RowKit
open Go.WideMaps Go.WideElems
open Go.Deep

structure OpS where
  fr : Int
  up : Int
def OpS.cells (d : OpS) : Array Value := #[.int .i64 d.fr, .int .i64 d.up]
structure OpS.In (d : OpS) (w : World) (B : Nat) : Prop where
  frin : -9223372036854775808 ≤ d.fr ∧ d.fr ≤ 9223372036854775807
  upin : -9223372036854775808 ≤ d.up ∧ d.up ≤ 9223372036854775807
theorem OpS.In.below {d : OpS} {w w' : World} {B : Nat} (h : d.In w B) (_hb : Below B w w') : d.In w' B := ⟨h.frin, h.upin⟩
def ActsS (w : World) (B : Nat) (A : Option Addr) (ds : List OpS) : Prop :=
  0 < ds.length → ∃ b off, A = some ⟨b, off, none⟩ ∧ b < w.heap.size ∧ b < B ∧ ∀ (j : Nat) (d : OpS), ds[j]? = some d → w.cell? ⟨b, off + j * 2, none⟩ = some (.int .i64 d.fr) ∧ w.cell? ⟨b, off + j * 2 + 1, none⟩ = some (.int .i64 d.up) ∧ d.In w B
theorem ActsS.below {w w' : World} {B : Nat} {A : Option Addr} {ds : List OpS} (h : ActsS w B A ds) (hs : w.heap.size ≤ w'.heap.size) (hb : Below B w w') : ActsS w' B A ds := fun hp => by
  obtain ⟨b, off, e, h1, h2, hc⟩ := h hp
  refine ⟨b, off, e, Nat.lt_of_lt_of_le h1 hs, h2, fun j d hd => ?_⟩
  obtain ⟨q0, q1, q2⟩ := hc j d hd
  exact ⟨(hb.cell (p := ⟨b, off + j * 2, none⟩) h2).trans q0, (hb.cell (p := ⟨b, off + j * 2 + 1, none⟩) h2).trans q1, q2.below hb⟩

set_option maxRecDepth 100000 in
theorem cellsOpS : Try.prog.cellsOf 36 = 2 := by kernel_rfl
theorem partS {α : Type} (cs : List α) (h : cs.length = 2) : ∃ v0 v1, cs = [v0, v1] := by
  match cs, h with
  | [v0, v1], _ => exact ⟨v0, v1, rfl⟩

set_option maxRecDepth 100000 in
/-- The cells of an act that came in. -/
theorem cells_opS {H : Type} {enc : TypeId × Value → H} {W : World} {cs : List Value} {fuel : Nat} {x : DataW H × List MemPlace} (h : DataW.trod enc Try.prog W 0 (fun _ => true) true fuel 36 cs = some x) :
    ∃ d : OpS, cs = d.cells.toList ∧ d.In W W.heap.size := by
  obtain ⟨xs, n, _, rfl, hl, hlen, hf⟩ := DataW.trod_struct Try.underlying36 h
  rw [cellsOpS] at hl
  obtain ⟨v0, v1, rfl⟩ := partS cs hl
  obtain ⟨y0, y1, rfl⟩ := partS xs hlen
  have h0 : DataW.trod enc Try.prog W 0 (fun _ => true) true n 3 (([v0, v1].drop 0).take (Try.prog.cellsOf 3)) = some y0 := hf 0 _ rfl
  have h1 : DataW.trod enc Try.prog W 0 (fun _ => true) true n 3 (([v0, v1].drop 1).take (Try.prog.cellsOf 3)) = some y1 := hf 1 _ rfl
  simp only [cellsIntV, List.drop_zero, List.drop_succ_cons, List.take_succ_cons, List.take_zero] at h0 h1
  obtain ⟨k0, e0, _, w0⟩ := DataW.trod_int Try.underlying3 h0
  obtain ⟨k1, e1, _, w1⟩ := DataW.trod_int Try.underlying3 h1
  injection e0 with e0
  injection e1 with e1
  subst e0 e1
  exact ⟨⟨k0, k1⟩, rfl, ⟨bounds_i64 w0, bounds_i64 w1⟩⟩

instance : Inhabited OpS := ⟨⟨0, 0⟩⟩
/-- A list of acts that came in. -/
structure ActsSIn (w : World) (A : Option Addr) (n c : Nat) (ds : List OpS) : Prop where
  lie : ActsS w w.heap.size A ds
  len : ds.length = n
  few : n ≤ 9223372036854775807
  nil_ : A = none → n = 0 ∧ c = 0
  room : n ≤ c
theorem view_actsS {H : Type} {enc : TypeId × Value → H} {W : World} {a : Option Addr} {n c : Nat} {d : DataW H} {p : List MemPlace} (h : DataW.Trod enc Try.prog W 0 (fun _ => true) true 33 (.slice a n c) d p) :
    ∃ ds : List OpS, ActsSIn W a n c ds := by
  obtain ⟨fuel, hf⟩ := h
  rcases open_slice Try.underlying33 hf with ⟨hcs, _⟩ | ⟨a', len, cap, m, k, D, Pl, hcs, _, hl, hcap, hm, _, hx⟩
  · simp [Value.cells] at hcs
    obtain ⟨rfl, rfl, rfl⟩ := hcs
    exact ⟨[], (fun h => by cases h), rfl, by simp, fun _ => ⟨rfl, rfl⟩, Nat.le_refl _⟩
  · simp [Value.cells] at hcs
    obtain ⟨rfl, rfl, rfl⟩ := hcs
    simp only [if_true] at hm
    subst hm
    have hmax : maxLen = 9223372036854775807 := rfl
    obtain ⟨F, hF⟩ := choose_lt (α := OpS) (n := n) (p := fun i d => (∀ j, j < 2 → W.cell? (a'.add (i * 2 + j)) = d.cells.toList[j]?) ∧ d.In W W.heap.size) (fun i hi => by
      obtain ⟨cs', h1, h2⟩ := hx i (by omega)
      obtain ⟨d, hd, ht⟩ := cells_opS h2
      rw [cellsOpS] at h1
      obtain ⟨_, _, hc⟩ := World.cells?_some h1
      refine ⟨d, fun j hj => ?_, ht⟩
      rw [← Addr.add_add, hc j hj, hd])
    have hlen : ((List.range n).map F).length = n := by simp
    refine ⟨(List.range n).map F, ?_, hlen, by omega, (fun e => by cases e), by omega⟩
    intro hpos
    rw [hlen] at hpos
    obtain ⟨b, off, spot⟩ := a'
    have h00 := (hF 0 hpos).1 0 (by omega)
    have hspot : spot = none := by
      have := World.cell?_spot h00
      simpa [Addr.add] using this
    subst hspot
    have hb : b < W.heap.size := by
      rw [Go.WideShapes.add_plain] at h00
      exact World.block_lt_of_cell? W _ h00
    refine ⟨b, off, rfl, hb, hb, fun j d hd => ?_⟩
    rw [List.getElem?_map] at hd
    obtain ⟨i, hi, rfl⟩ := Option.map_eq_some_iff.1 hd
    have hij : j < n ∧ j = i := by
      by_cases hj : j < n
      · rw [List.getElem?_range hj] at hi
        exact ⟨hj, Option.some.inj hi⟩
      · rw [List.getElem?_eq_none (by simp; omega)] at hi; cases hi
    obtain ⟨hj, rfl⟩ := hij
    obtain ⟨hc, ht⟩ := hF j hj
    have q : ∀ i, i < 2 → W.cell? ⟨b, off + j * 2 + i, none⟩ = (F j).cells.toList[i]? := fun i hi => by
      rw [← hc i hi, Go.WideShapes.add_plain, Nat.add_assoc]
    exact ⟨q 0 (by omega), q 1 (by omega), ht⟩
/-- The same, as spans. -/
def spansOf (ds : List OpS) : List (Int × Int) := ds.map fun d => (d.fr, d.up)
theorem spansOf_len (ds : List OpS) : (spansOf ds).length = ds.length := by simp [spansOf]
theorem ActsS.spans {w : World} {A : Option Addr} {ds : List OpS} (h : ActsS w w.heap.size A ds) : Spans w w.heap.size A (spansOf ds) := fun hp => by
  obtain ⟨b, off, e, h1, _, hc⟩ := h (by rw [spansOf_len] at hp; exact hp)
  refine ⟨b, off, e, h1, fun j x hx => ?_⟩
  unfold spansOf at hx
  rw [List.getElem?_map] at hx
  obtain ⟨d, hd, rfl⟩ := Option.map_eq_some_iff.1 hx
  obtain ⟨q0, q1, _⟩ := hc j d hd
  exact ⟨q0, q1⟩
theorem ActsS.bounds {w : World} {A : Option Addr} {ds : List OpS} (h : ActsS w w.heap.size A ds) : ∀ x ∈ spansOf ds, (-9223372036854775808 ≤ x.1 ∧ x.1 ≤ 9223372036854775807) ∧ (-9223372036854775808 ≤ x.2 ∧ x.2 ≤ 9223372036854775807) := by
  intro x hx
  unfold spansOf at hx
  obtain ⟨d, hd, rfl⟩ := List.mem_map.1 hx
  obtain ⟨j, hj⟩ := List.mem_iff_getElem?.1 hd
  obtain ⟨b, off, e, h1, _, hc⟩ := h (by have := List.length_pos_of_mem hd; exact this)
  obtain ⟨_, _, q⟩ := hc j d hj
  exact ⟨q.frin, q.upin⟩
end Go.Proofs.Ytkcjiogackkecaa
