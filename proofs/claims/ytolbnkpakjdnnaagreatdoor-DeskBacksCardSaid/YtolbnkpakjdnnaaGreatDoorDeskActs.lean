/-
  Acts on a Desk that came in as an argument. No statement is proved here.
-/
import Derived.Test.YtolbnkpakjdnnaaGreatDoorDeskMarks
import Derived.Test.YtolbnkpakjdnnaaGreatDoorIntsView
import Derived.Deep.SlicePairs
import Derived.Deep.Slices
import Derived.Lib.SmallJoins
namespace Go.Proofs.YtolbnkpakjdnnaaGreatDoor
open Go.ChangeShapes Go.WideShapes Go.ChangeAt Go.RowKit
open Go.WideMaps Go.WideElems
open Go.Deep

structure Op11 where
  kind : Int
  a : Int
  s : ByteArray
  la : Option Addr
  lc : Nat
  l : List Int
def Op11.cells (d : Op11) : Array Value := #[.int .i64 d.kind, .int .i64 d.a, .string d.s, .slice d.la d.l.length d.lc]
structure Op11.In (d : Op11) (w : World) (B : Nat) : Prop where
  kindin : -9223372036854775808 ≤ d.kind ∧ d.kind ≤ 9223372036854775807
  ain : -9223372036854775808 ≤ d.a ∧ d.a ≤ 9223372036854775807
  sfew : d.s.size ≤ 9223372036854775807
  ls : Ints w B d.la d.l
  ln : d.la = none → d.l.length = 0 ∧ d.lc = 0
  lfew : d.l.length ≤ 9223372036854775807
theorem Op11.In.below {d : Op11} {w w' : World} {B : Nat} (h : d.In w B) (hb : Below B w w') : d.In w' B := ⟨h.kindin, h.ain, h.sfew, h.ls.below hb, h.ln, h.lfew⟩
def Acts11 (w : World) (B : Nat) (A : Option Addr) (ds : List Op11) : Prop :=
  0 < ds.length → ∃ b off, A = some ⟨b, off, none⟩ ∧ b < w.heap.size ∧ b < B ∧ ∀ (j : Nat) (d : Op11), ds[j]? = some d → w.cell? ⟨b, off + j * 4, none⟩ = some (.int .i64 d.kind) ∧ w.cell? ⟨b, off + j * 4 + 1, none⟩ = some (.int .i64 d.a) ∧ w.cell? ⟨b, off + j * 4 + 2, none⟩ = some (.string d.s) ∧ w.cell? ⟨b, off + j * 4 + 3, none⟩ = some (.slice d.la d.l.length d.lc) ∧ d.In w B
theorem Acts11.below {w w' : World} {B : Nat} {A : Option Addr} {ds : List Op11} (h : Acts11 w B A ds) (hs : w.heap.size ≤ w'.heap.size) (hb : Below B w w') : Acts11 w' B A ds := fun hp => by
  obtain ⟨b, off, e, h1, h2, hc⟩ := h hp
  refine ⟨b, off, e, Nat.lt_of_lt_of_le h1 hs, h2, fun j d hd => ?_⟩
  obtain ⟨q0, q1, q2, q3, q4⟩ := hc j d hd
  exact ⟨(hb.cell (p := ⟨b, off + j * 4, none⟩) h2).trans q0, (hb.cell (p := ⟨b, off + j * 4 + 1, none⟩) h2).trans q1, (hb.cell (p := ⟨b, off + j * 4 + 2, none⟩) h2).trans q2, (hb.cell (p := ⟨b, off + j * 4 + 3, none⟩) h2).trans q3, q4.below hb⟩

set_option maxRecDepth 100000 in
theorem cellsOp11 : Tryz.prog.cellsOf 81 = 4 := by kernel_rfl
theorem cells_string11 : Tryz.prog.cellsOf 9 = 1 := by kernel_rfl
theorem cells_ints11 : Tryz.prog.cellsOf 30 = 1 := by kernel_rfl
/-- Numbers that came in, from the cells of their slice. -/
theorem cells_list11 {H : Type} {enc : TypeId × Value → H} {W : World} {cs : List Value} {fuel : Nat} {x : DataW H × List MemPlace} (h : DataW.trod enc Tryz.prog W 0 (fun _ => true) true fuel 30 cs = some x) :
    ∃ (a : Option Addr) (c : Nat) (l : List Int), cs = [.slice a l.length c] ∧ Ints W W.heap.size a l ∧ (a = none → l.length = 0 ∧ c = 0) ∧ l.length ≤ 9223372036854775807 := by
  rcases open_ints Tryz.underlying30 Tryz.underlying3 cellsIntV h with ⟨hcs, _⟩ | ⟨a', len, cap, zs, hcs, _, hl, hcap, hz, _, hc, hw⟩
  · exact ⟨none, 0, [], hcs, Ints.nil _ _ _, fun _ => ⟨rfl, rfl⟩, by simp⟩
  · simp only [if_true] at hz
    have hmax : maxLen = 9223372036854775807 := rfl
    have hlen : (zs.take len).length = len := by rw [List.length_take]; omega
    refine ⟨some a', cap, zs.take len, by rw [hlen]; exact hcs, ?_, (fun e => by cases e), by omega⟩
    intro hpos
    rw [hlen] at hpos
    obtain ⟨b, off, rfl, hb, hc'⟩ := plain_at hc (by omega)
    refine ⟨b, off, rfl, hb, fun j x hx => ?_⟩
    rw [List.getElem?_take] at hx
    split at hx
    · have := hc' j (by omega)
      rw [this, List.getD_eq_getElem?_getD, hx]
      rfl
    · cases hx
theorem part11 {α : Type} (cs : List α) (h : cs.length = 4) : ∃ v0 v1 v2 v3, cs = [v0, v1, v2, v3] := by
  match cs, h with
  | [v0, v1, v2, v3], _ => exact ⟨v0, v1, v2, v3, rfl⟩

set_option maxRecDepth 100000 in
/-- The cells of an act that came in. -/
theorem cells_op11 {H : Type} {enc : TypeId × Value → H} {W : World} {cs : List Value} {fuel : Nat} {x : DataW H × List MemPlace} (h : DataW.trod enc Tryz.prog W 0 (fun _ => true) true fuel 81 cs = some x) :
    ∃ d : Op11, cs = d.cells.toList ∧ d.In W W.heap.size := by
  obtain ⟨xs, n, _, rfl, hl, hlen, hf⟩ := DataW.trod_struct Tryz.underlying81 h
  rw [cellsOp11] at hl
  obtain ⟨v0, v1, v2, v3, rfl⟩ := part11 cs hl
  obtain ⟨y0, y1, y2, y3, rfl⟩ := part11 xs hlen
  have h0 : DataW.trod enc Tryz.prog W 0 (fun _ => true) true n 3 (([v0, v1, v2, v3].drop 0).take (Tryz.prog.cellsOf 3)) = some y0 := hf 0 _ rfl
  have h1 : DataW.trod enc Tryz.prog W 0 (fun _ => true) true n 3 (([v0, v1, v2, v3].drop 1).take (Tryz.prog.cellsOf 3)) = some y1 := hf 1 _ rfl
  have h2 : DataW.trod enc Tryz.prog W 0 (fun _ => true) true n 9 (([v0, v1, v2, v3].drop 2).take (Tryz.prog.cellsOf 9)) = some y2 := hf 2 _ rfl
  have h3 : DataW.trod enc Tryz.prog W 0 (fun _ => true) true n 30 (([v0, v1, v2, v3].drop 3).take (Tryz.prog.cellsOf 30)) = some y3 := hf 3 _ rfl
  simp only [cellsIntV, cells_string11, cells_ints11, List.drop_zero, List.drop_succ_cons, List.take_succ_cons, List.take_zero] at h0 h1 h2 h3
  obtain ⟨k0, e0, _, w0⟩ := DataW.trod_int Tryz.underlying3 h0
  obtain ⟨k1, e1, _, w1⟩ := DataW.trod_int Tryz.underlying3 h1
  obtain ⟨k2, e2, _, w2⟩ := DataW.trod_string Tryz.underlying9 h2
  obtain ⟨a3, c3, k3, e3, l3, m3, w3⟩ := cells_list11 h3
  injection e0 with e0
  injection e1 with e1
  injection e2 with e2
  injection e3 with e3
  subst e0 e1 e2 e3
  exact ⟨⟨k0, k1, k2, a3, c3, k3⟩, rfl, ⟨bounds_i64 w0, bounds_i64 w1, (by have hmax : maxLen = 9223372036854775807 := rfl; rw [← hmax]; exact w2), l3, m3, w3⟩⟩

instance : Inhabited Op11 := ⟨⟨0, 0, .empty, none, 0, []⟩⟩
/-- A list of acts that came in. -/
structure Acts11In (w : World) (A : Option Addr) (n c : Nat) (ds : List Op11) : Prop where
  lie : Acts11 w w.heap.size A ds
  len : ds.length = n
  few : n ≤ 9223372036854775807
  nil_ : A = none → n = 0 ∧ c = 0
theorem view_acts11 {H : Type} {enc : TypeId × Value → H} {W : World} {a : Option Addr} {n c : Nat} {d : DataW H} {p : List MemPlace} (h : DataW.Trod enc Tryz.prog W 0 (fun _ => true) true 61 (.slice a n c) d p) :
    ∃ ds : List Op11, Acts11In W a n c ds := by
  obtain ⟨fuel, hf⟩ := h
  rcases open_slice Tryz.underlying61 hf with ⟨hcs, _⟩ | ⟨a', len, cap, m, k, D, Pl, hcs, _, hl, hcap, hm, _, hx⟩
  · simp [Value.cells] at hcs
    obtain ⟨rfl, rfl, rfl⟩ := hcs
    exact ⟨[], (fun h => by cases h), rfl, by simp, fun _ => ⟨rfl, rfl⟩⟩
  · simp [Value.cells] at hcs
    obtain ⟨rfl, rfl, rfl⟩ := hcs
    simp only [if_true] at hm
    subst hm
    have hmax : maxLen = 9223372036854775807 := rfl
    obtain ⟨F, hF⟩ := choose_lt (α := Op11) (n := n) (p := fun i d => (∀ j, j < 4 → W.cell? (a'.add (i * 4 + j)) = d.cells.toList[j]?) ∧ d.In W W.heap.size) (fun i hi => by
      obtain ⟨cs', h1, h2⟩ := hx i (by omega)
      obtain ⟨d, hd, ht⟩ := cells_op11 h2
      rw [cellsOp11] at h1
      obtain ⟨_, _, hc⟩ := World.cells?_some h1
      refine ⟨d, fun j hj => ?_, ht⟩
      rw [← Addr.add_add, hc j hj, hd])
    have hlen : ((List.range n).map F).length = n := by simp
    refine ⟨(List.range n).map F, ?_, hlen, by omega, fun e => by cases e⟩
    intro hpos
    rw [hlen] at hpos
    obtain ⟨b, off, spot⟩ := a'
    have h00 := (hF 0 hpos).1 0 (by omega)
    have hspot : spot = none := by
      have := World.cell?_spot h00
      simpa [Addr.add] using this
    subst hspot
    have hb : b < W.heap.size := by
      rw [Go.WideShapes.add_plain] at h00
      exact World.block_lt_of_cell? W _ h00
    refine ⟨b, off, rfl, hb, hb, fun j d hd => ?_⟩
    rw [List.getElem?_map] at hd
    obtain ⟨i, hi, rfl⟩ := Option.map_eq_some_iff.1 hd
    have hij : j < n ∧ j = i := by
      by_cases hj : j < n
      · rw [List.getElem?_range hj] at hi
        exact ⟨hj, Option.some.inj hi⟩
      · rw [List.getElem?_eq_none (by simp; omega)] at hi; cases hi
    obtain ⟨hj, rfl⟩ := hij
    obtain ⟨hc, ht⟩ := hF j hj
    have q : ∀ i, i < 4 → W.cell? ⟨b, off + j * 4 + i, none⟩ = (F j).cells.toList[i]? := fun i hi => by
      rw [← hc i hi, Go.WideShapes.add_plain, Nat.add_assoc]
    exact ⟨q 0 (by omega), q 1 (by omega), q 2 (by omega), q 3 (by omega), ht⟩
end Go.Proofs.YtolbnkpakjdnnaaGreatDoor
