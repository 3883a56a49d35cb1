/-
  Acts on chains that came in as an argument. No statement is proved here.
-/
import Derived.Test.YtnamokngiebicaaGreatDoorDeskMarks
import Derived.Deep.SlicePairs
import Derived.Deep.Slices
import Derived.Lib.SmallJoins
namespace Go.Proofs.YtnamokngiebicaaGreatDoor
open Go.ChangeShapes Go.WideShapes Go.ChangeAt Go.RowKit
open Go.WideMaps Go.WideElems
open Go.Deep

structure Op12 where
  kind : Int
  k : Int
  gen : Int
  tag : Int
  by_ : Int
  s : ByteArray
  more : Int
def Op12.cells (d : Op12) : Array Value := #[.int .i64 d.kind, .int .i64 d.k, .int .i64 d.gen, .int .i64 d.tag, .int .i64 d.by_, .string d.s, .int .i64 d.more]
structure Op12.In (d : Op12) (w : World) (B : Nat) : Prop where
  kindin : -9223372036854775808 ≤ d.kind ∧ d.kind ≤ 9223372036854775807
  kin : -9223372036854775808 ≤ d.k ∧ d.k ≤ 9223372036854775807
  genin : -9223372036854775808 ≤ d.gen ∧ d.gen ≤ 9223372036854775807
  tagin : -9223372036854775808 ≤ d.tag ∧ d.tag ≤ 9223372036854775807
  by_in : -9223372036854775808 ≤ d.by_ ∧ d.by_ ≤ 9223372036854775807
  sfew : d.s.size ≤ 9223372036854775807
  morein : -9223372036854775808 ≤ d.more ∧ d.more ≤ 9223372036854775807
theorem Op12.In.below {d : Op12} {w w' : World} {B : Nat} (h : d.In w B) (_ : Below B w w') : d.In w' B := ⟨h.kindin, h.kin, h.genin, h.tagin, h.by_in, h.sfew, h.morein⟩
def Acts12 (w : World) (B : Nat) (A : Option Addr) (ds : List Op12) : Prop :=
  0 < ds.length → ∃ b off, A = some ⟨b, off, none⟩ ∧ b < w.heap.size ∧ b < B ∧ ∀ (j : Nat) (d : Op12), ds[j]? = some d → w.cell? ⟨b, off + j * 7, none⟩ = some (.int .i64 d.kind) ∧ w.cell? ⟨b, off + j * 7 + 1, none⟩ = some (.int .i64 d.k) ∧ w.cell? ⟨b, off + j * 7 + 2, none⟩ = some (.int .i64 d.gen) ∧ w.cell? ⟨b, off + j * 7 + 3, none⟩ = some (.int .i64 d.tag) ∧ w.cell? ⟨b, off + j * 7 + 4, none⟩ = some (.int .i64 d.by_) ∧ w.cell? ⟨b, off + j * 7 + 5, none⟩ = some (.string d.s) ∧ w.cell? ⟨b, off + j * 7 + 6, none⟩ = some (.int .i64 d.more) ∧ d.In w B
theorem Acts12.below {w w' : World} {B : Nat} {A : Option Addr} {ds : List Op12} (h : Acts12 w B A ds) (hs : w.heap.size ≤ w'.heap.size) (hb : Below B w w') : Acts12 w' B A ds := fun hp => by
  obtain ⟨b, off, e, h1, h2, hc⟩ := h hp
  refine ⟨b, off, e, Nat.lt_of_lt_of_le h1 hs, h2, fun j d hd => ?_⟩
  obtain ⟨q0, q1, q2, q3, q4, q5, q6, q7⟩ := hc j d hd
  exact ⟨(hb.cell (p := ⟨b, off + j * 7, none⟩) h2).trans q0, (hb.cell (p := ⟨b, off + j * 7 + 1, none⟩) h2).trans q1, (hb.cell (p := ⟨b, off + j * 7 + 2, none⟩) h2).trans q2, (hb.cell (p := ⟨b, off + j * 7 + 3, none⟩) h2).trans q3, (hb.cell (p := ⟨b, off + j * 7 + 4, none⟩) h2).trans q4, (hb.cell (p := ⟨b, off + j * 7 + 5, none⟩) h2).trans q5, (hb.cell (p := ⟨b, off + j * 7 + 6, none⟩) h2).trans q6, q7.below hb⟩

set_option maxRecDepth 100000 in
theorem cellsOp12 : Tryz.prog.cellsOf 71 = 7 := by kernel_rfl
theorem cells_int12 : Tryz.prog.cellsOf 3 = 1 := by kernel_rfl
theorem cells_string12 : Tryz.prog.cellsOf 9 = 1 := by kernel_rfl
theorem part12 {α : Type} (cs : List α) (h : cs.length = 7) : ∃ v0 v1 v2 v3 v4 v5 v6, cs = [v0, v1, v2, v3, v4, v5, v6] := by
  match cs, h with
  | [v0, v1, v2, v3, v4, v5, v6], _ => exact ⟨v0, v1, v2, v3, v4, v5, v6, rfl⟩

set_option maxRecDepth 100000 in
/-- The cells of an act that came in. -/
theorem cells_op12 {H : Type} {enc : TypeId × Value → H} {W : World} {cs : List Value} {fuel : Nat} {x : DataW H × List MemPlace} (h : DataW.trod enc Tryz.prog W 0 (fun _ => true) true fuel 71 cs = some x) :
    ∃ d : Op12, cs = d.cells.toList ∧ d.In W W.heap.size := by
  obtain ⟨xs, n, _, rfl, hl, hlen, hf⟩ := DataW.trod_struct Tryz.underlying71 h
  rw [cellsOp12] at hl
  obtain ⟨v0, v1, v2, v3, v4, v5, v6, rfl⟩ := part12 cs hl
  obtain ⟨y0, y1, y2, y3, y4, y5, y6, rfl⟩ := part12 xs hlen
  have h0 : DataW.trod enc Tryz.prog W 0 (fun _ => true) true n 3 (([v0, v1, v2, v3, v4, v5, v6].drop 0).take (Tryz.prog.cellsOf 3)) = some y0 := hf 0 _ rfl
  have h1 : DataW.trod enc Tryz.prog W 0 (fun _ => true) true n 3 (([v0, v1, v2, v3, v4, v5, v6].drop 1).take (Tryz.prog.cellsOf 3)) = some y1 := hf 1 _ rfl
  have h2 : DataW.trod enc Tryz.prog W 0 (fun _ => true) true n 3 (([v0, v1, v2, v3, v4, v5, v6].drop 2).take (Tryz.prog.cellsOf 3)) = some y2 := hf 2 _ rfl
  have h3 : DataW.trod enc Tryz.prog W 0 (fun _ => true) true n 3 (([v0, v1, v2, v3, v4, v5, v6].drop 3).take (Tryz.prog.cellsOf 3)) = some y3 := hf 3 _ rfl
  have h4 : DataW.trod enc Tryz.prog W 0 (fun _ => true) true n 3 (([v0, v1, v2, v3, v4, v5, v6].drop 4).take (Tryz.prog.cellsOf 3)) = some y4 := hf 4 _ rfl
  have h5 : DataW.trod enc Tryz.prog W 0 (fun _ => true) true n 9 (([v0, v1, v2, v3, v4, v5, v6].drop 5).take (Tryz.prog.cellsOf 9)) = some y5 := hf 5 _ rfl
  have h6 : DataW.trod enc Tryz.prog W 0 (fun _ => true) true n 3 (([v0, v1, v2, v3, v4, v5, v6].drop 6).take (Tryz.prog.cellsOf 3)) = some y6 := hf 6 _ rfl
  simp only [cells_int12, cells_string12, List.drop_zero, List.drop_succ_cons, List.take_succ_cons, List.take_zero] at h0 h1 h2 h3 h4 h5 h6
  obtain ⟨k0, e0, _, w0⟩ := DataW.trod_int Tryz.underlying3 h0
  obtain ⟨k1, e1, _, w1⟩ := DataW.trod_int Tryz.underlying3 h1
  obtain ⟨k2, e2, _, w2⟩ := DataW.trod_int Tryz.underlying3 h2
  obtain ⟨k3, e3, _, w3⟩ := DataW.trod_int Tryz.underlying3 h3
  obtain ⟨k4, e4, _, w4⟩ := DataW.trod_int Tryz.underlying3 h4
  obtain ⟨k5, e5, _, w5⟩ := DataW.trod_string Tryz.underlying9 h5
  obtain ⟨k6, e6, _, w6⟩ := DataW.trod_int Tryz.underlying3 h6
  injection e0 with e0
  injection e1 with e1
  injection e2 with e2
  injection e3 with e3
  injection e4 with e4
  injection e5 with e5
  injection e6 with e6
  subst e0 e1 e2 e3 e4 e5 e6
  exact ⟨⟨k0, k1, k2, k3, k4, k5, k6⟩, rfl, ⟨bounds_i64 w0, bounds_i64 w1, bounds_i64 w2, bounds_i64 w3, bounds_i64 w4, (by have hmax : maxLen = 9223372036854775807 := rfl; rw [← hmax]; exact w5), bounds_i64 w6⟩⟩

instance : Inhabited Op12 := ⟨⟨0, 0, 0, 0, 0, .empty, 0⟩⟩
/-- A list of acts that came in. -/
structure Acts12In (w : World) (A : Option Addr) (n c : Nat) (ds : List Op12) : Prop where
  lie : Acts12 w w.heap.size A ds
  len : ds.length = n
  few : n ≤ 9223372036854775807
  nil_ : A = none → n = 0 ∧ c = 0
theorem view_acts12 {H : Type} {enc : TypeId × Value → H} {W : World} {a : Option Addr} {n c : Nat} {d : DataW H} {p : List MemPlace} (h : DataW.Trod enc Tryz.prog W 0 (fun _ => true) true 66 (.slice a n c) d p) :
    ∃ ds : List Op12, Acts12In W a n c ds := by
  obtain ⟨fuel, hf⟩ := h
  rcases open_slice Tryz.underlying66 hf with ⟨hcs, _⟩ | ⟨a', len, cap, m, k, D, Pl, hcs, _, hl, hcap, hm, _, hx⟩
  · simp [Value.cells] at hcs
    obtain ⟨rfl, rfl, rfl⟩ := hcs
    exact ⟨[], (fun h => by cases h), rfl, by simp, fun _ => ⟨rfl, rfl⟩⟩
  · simp [Value.cells] at hcs
    obtain ⟨rfl, rfl, rfl⟩ := hcs
    simp only [if_true] at hm
    subst hm
    have hmax : maxLen = 9223372036854775807 := rfl
    obtain ⟨F, hF⟩ := choose_lt (α := Op12) (n := n) (p := fun i d => (∀ j, j < 7 → W.cell? (a'.add (i * 7 + j)) = d.cells.toList[j]?) ∧ d.In W W.heap.size) (fun i hi => by
      obtain ⟨cs', h1, h2⟩ := hx i (by omega)
      obtain ⟨d, hd, ht⟩ := cells_op12 h2
      rw [cellsOp12] at h1
      obtain ⟨_, _, hc⟩ := World.cells?_some h1
      refine ⟨d, fun j hj => ?_, ht⟩
      rw [← Addr.add_add, hc j hj, hd])
    have hlen : ((List.range n).map F).length = n := by simp
    refine ⟨(List.range n).map F, ?_, hlen, by omega, fun e => by cases e⟩
    intro hpos
    rw [hlen] at hpos
    obtain ⟨b, off, spot⟩ := a'
    have h00 := (hF 0 hpos).1 0 (by omega)
    have hspot : spot = none := by
      have := World.cell?_spot h00
      simpa [Addr.add] using this
    subst hspot
    have hb : b < W.heap.size := by
      rw [Go.WideShapes.add_plain] at h00
      exact World.block_lt_of_cell? W _ h00
    refine ⟨b, off, rfl, hb, hb, fun j d hd => ?_⟩
    rw [List.getElem?_map] at hd
    obtain ⟨i, hi, rfl⟩ := Option.map_eq_some_iff.1 hd
    have hij : j < n ∧ j = i := by
      by_cases hj : j < n
      · rw [List.getElem?_range hj] at hi
        exact ⟨hj, Option.some.inj hi⟩
      · rw [List.getElem?_eq_none (by simp; omega)] at hi; cases hi
    obtain ⟨hj, rfl⟩ := hij
    obtain ⟨hc, ht⟩ := hF j hj
    have q : ∀ i, i < 7 → W.cell? ⟨b, off + j * 7 + i, none⟩ = (F j).cells.toList[i]? := fun i hi => by
      rw [← hc i hi, Go.WideShapes.add_plain, Nat.add_assoc]
    exact ⟨q 0 (by omega), q 1 (by omega), q 2 (by omega), q 3 (by omega), q 4 (by omega), q 5 (by omega), q 6 (by omega), ht⟩
end Go.Proofs.YtnamokngiebicaaGreatDoor
