/-
  BitsRead: for every text and every list of acts the statement's function returns true, and both arguments read behind the call as before it. Its conditions: the two tables of unicode/utf8 that the row lists read as the program's text lays them (the card ties that); no other.
-/
import Derived.Test.YtdfickppfihiiaaDoorLaid
import Derived.Test.YtdfickppfihiiaaDoorReadWalk
import Derived.Test.YtdfickppfihiiaaDoorReadOut
import Derived.SliceStrings
import Derived.Deep.Slices
import Derived.Lib.SmallJoins
namespace Go.Proofs.YtdfickppfihiiaaDoor.bitsRead
open Go.ChangeShapes Go.WideShapes Go.ChangeAt Go.RowKit
open Go.WideMaps Go.WideElems
open Go.ChangeMaps (open_string shut_string)
open Go.Deep

theorem laidOut : laidOutB Tryd.prog = true := by kernel_rfl
theorem cellsInt : Tryd.prog.cellsOf 3 = 1 := by kernel_rfl
theorem cellsStr : Tryd.prog.cellsOf 9 = 1 := by kernel_rfl
theorem cellsOp : Tryd.prog.cellsOf 34 = 4 := by kernel_rfl
theorem cellsInts : Tryd.prog.cellsOf 31 = 1 := by kernel_rfl
theorem cellsStrs : Tryd.prog.cellsOf 32 = 1 := by kernel_rfl

/-- Cells from an address on are cells of one block, where there is one at all. -/
theorem plain_at {W : World} {a : Addr} {n : Nat} {f : Nat → Value} (h : ∀ i, i < n → W.cell? (a.add i) = some (f i)) (hp : 0 < n) :
    ∃ b off, a = ⟨b, off, none⟩ ∧ b < W.heap.size ∧ ∀ j, j < n → W.cell? ⟨b, off + j, none⟩ = some (f j) := by
  obtain ⟨b, off, spot⟩ := a
  have hspot : spot = none := by simpa [Addr.add] using World.cell?_spot (h 0 hp)
  subst hspot
  have hc : ∀ j, j < n → W.cell? ⟨b, off + j, none⟩ = some (f j) := fun j hj => by rw [← Go.WideShapes.add_plain]; exact h j hj
  exact ⟨b, off, rfl, World.block_lt_of_cell? W _ (hc 0 hp), hc⟩

/-- A list of texts that came in, from the cells of its slice. -/
theorem cells_txts {H : Type} {enc : TypeId × Value → H} {W : World} {cs : List Value} {fuel : Nat} {x : DataW H × List MemPlace} (h : DataW.trod enc Tryd.prog W 0 (fun _ => true) true fuel 32 cs = some x) :
    ∃ (a : Option Addr) (c : Nat) (xs : List ByteArray), cs = [.slice a xs.length c] ∧ Txts W W.heap.size a xs ∧ xs.length ≤ 9223372036854775807 ∧ ∀ t ∈ xs, t.size ≤ 9223372036854775807 := by
  rcases open_strings Tryd.underlying32 Tryd.underlying9 cellsStr h with ⟨hcs, _⟩ | ⟨a', len, cap, zs, hcs, _, hl, hcap, hz, _, hc, hw⟩
  · exact ⟨none, 0, [], hcs, Txts.nil _ _ _, by simp, fun t ht => by cases ht⟩
  · simp only [if_true] at hz
    have hlen : (zs.take len).length = len := by rw [List.length_take]; omega
    have hmax : maxLen = 9223372036854775807 := rfl
    refine ⟨some a', cap, zs.take len, by rw [hlen]; exact hcs, ?_, by omega, fun t ht => by rw [← hmax]; exact hw t (List.mem_of_mem_take ht)⟩
    intro hpos
    rw [hlen] at hpos
    obtain ⟨b, off, rfl, hb, hc'⟩ := plain_at hc (by omega)
    refine ⟨b, off, rfl, hb, fun j x hx => ?_⟩
    rw [List.getElem?_take] at hx
    split at hx
    · have := hc' j (by omega)
      rw [this, List.getD_eq_getElem?_getD, hx]
      rfl
    · cases hx
/-- A list of numbers that came in: only its length is wanted. -/
theorem cells_ints {H : Type} {enc : TypeId × Value → H} {W : World} {cs : List Value} {fuel : Nat} {x : DataW H × List MemPlace} (h : DataW.trod enc Tryd.prog W 0 (fun _ => true) true fuel 31 cs = some x) :
    ∃ (a : Option Addr) (n c : Nat), cs = [.slice a n c] ∧ n ≤ 9223372036854775807 := by
  rcases open_ints Tryd.underlying31 Tryd.underlying3 cellsInt h with ⟨hcs, _⟩ | ⟨a', len, cap, zs, hcs, _, hl, hcap, _⟩
  · exact ⟨none, 0, 0, hcs, by simp⟩
  · have hmax : maxLen = 9223372036854775807 := rfl
    exact ⟨some a', len, cap, hcs, by omega⟩
theorem four (cs : List Value) (h : cs.length = 4) : ∃ v0 v1 v2 v3, cs = [v0, v1, v2, v3] := by
  match cs, h with
  | [v0, v1, v2, v3], _ => exact ⟨v0, v1, v2, v3, rfl⟩
/-- The four cells of an act that came in. -/
theorem cells_op {H : Type} {enc : TypeId × Value → H} {W : World} {cs : List Value} {fuel : Nat} {x : DataW H × List MemPlace} (h : DataW.trod enc Tryd.prog W 0 (fun _ => true) true fuel 34 cs = some x) :
    ∃ d : OpD, cs = [.int .i64 d.kind, .int .i64 d.n, .slice d.la d.ln d.lc, .slice d.ta d.ts.length d.tc] ∧ Txts W W.heap.size d.ta d.ts ∧ d.fits := by
  obtain ⟨y0, y1, y2, y3, n, _, hl, h0, h1, h2, h3⟩ := Go.Joins.trod_struct4 Tryd.underlying34 h
  rw [cellsOp] at hl
  obtain ⟨v0, v1, v2, v3, rfl⟩ := four cs hl
  simp only [cellsInt, cellsInts, cellsStrs, List.drop_zero, List.drop_succ_cons, List.take_succ_cons, List.take_zero] at h0 h1 h2 h3
  obtain ⟨k, e0, _, w0⟩ := DataW.trod_int Tryd.underlying3 h0
  obtain ⟨m, e1, _, w1⟩ := DataW.trod_int Tryd.underlying3 h1
  obtain ⟨la, ln, lc, e2, hln⟩ := cells_ints h2
  obtain ⟨ta, tc, ts, e3, ht, htn, hts⟩ := cells_txts h3
  injection e0 with e0
  injection e1 with e1
  injection e2 with e2
  injection e3 with e3
  subst e0 e1 e2 e3
  exact ⟨⟨k, m, la, ln, lc, ta, tc, ts⟩, rfl, ht, bounds_i64 w0, bounds_i64 w1, hln, htn, hts⟩

instance : Inhabited OpD := ⟨⟨0, 0, none, 0, 0, none, 0, []⟩⟩
/-- A list of acts that came in. -/
theorem view_acts {H : Type} {enc : TypeId × Value → H} {W : World} {a : Option Addr} {n c : Nat} {d : DataW H} {p : List MemPlace} (h : DataW.Trod enc Tryd.prog W 0 (fun _ => true) true 22 (.slice a n c) d p) :
    ∃ ds : List OpD, ds.length = n ∧ Acts W W.heap.size a ds ∧ (∀ d ∈ ds, d.fits) ∧ n ≤ 9223372036854775807 := by
  obtain ⟨fuel, hf⟩ := h
  rcases open_slice Tryd.underlying22 hf with ⟨hcs, _⟩ | ⟨a', len, cap, m, k, D, Pl, hcs, _, hl, hcap, hm, _, hx⟩
  · simp [Value.cells] at hcs
    obtain ⟨rfl, rfl, rfl⟩ := hcs
    exact ⟨[], rfl, (by intro h; cases h), (by intro d hd; cases hd), by simp⟩
  · simp [Value.cells] at hcs
    obtain ⟨rfl, rfl, rfl⟩ := hcs
    simp only [if_true] at hm
    subst hm
    have hmax : maxLen = 9223372036854775807 := rfl
    obtain ⟨F, hF⟩ := choose_lt (α := OpD) (n := n) (p := fun i d => (∀ j, j < 4 → W.cell? (a'.add (i * 4 + j)) = [Value.int .i64 d.kind, .int .i64 d.n, .slice d.la d.ln d.lc, .slice d.ta d.ts.length d.tc][j]?) ∧ Txts W W.heap.size d.ta d.ts ∧ d.fits) (fun i hi => by
      obtain ⟨cs', h1, h2⟩ := hx i (by omega)
      obtain ⟨d, hd, ht, hfit⟩ := cells_op h2
      rw [cellsOp] at h1
      obtain ⟨_, _, hc⟩ := World.cells?_some h1
      refine ⟨d, fun j hj => ?_, ht, hfit⟩
      rw [← Addr.add_add, hc j hj, hd])
    have hlen : ((List.range n).map F).length = n := by simp
    refine ⟨(List.range n).map F, hlen, ?_, ?_, by omega⟩
    · intro hpos
      rw [hlen] at hpos
      obtain ⟨b, off, spot⟩ := a'
      have h00 := (hF 0 hpos).1 0 (by omega)
      have hspot : spot = none := by
        have := World.cell?_spot h00
        simpa [Addr.add] using this
      subst hspot
      have hb : b < W.heap.size := by
        rw [Go.WideShapes.add_plain] at h00
        exact World.block_lt_of_cell? W _ h00
      refine ⟨b, off, rfl, hb, fun j d hd => ?_⟩
      rw [List.getElem?_map] at hd
      obtain ⟨i, hi, rfl⟩ := Option.map_eq_some_iff.1 hd
      rw [List.getElem?_range] at hi
      rotate_left
      · by_cases hj : j < n
        · exact hj
        · rw [List.getElem?_eq_none (by simp; omega)] at hi; cases hi
      injection hi with hi
      subst hi
      by_cases hj : j < n
      · obtain ⟨hc, ht, _⟩ := hF j hj
        have q : ∀ i, i < 4 → W.cell? ⟨b, off + j * 4 + i, none⟩ = [Value.int .i64 (F j).kind, .int .i64 (F j).n, .slice (F j).la (F j).ln (F j).lc, .slice (F j).ta (F j).ts.length (F j).tc][i]? := fun i hi => by
          rw [← hc i hi, Go.WideShapes.add_plain, Nat.add_assoc]
        exact ⟨⟨q 0 (by omega), q 1 (by omega), q 2 (by omega), q 3 (by omega)⟩, ht⟩
      · rw [List.getElem?_eq_none (by simp; omega)] at hd; cases hd
    · intro d hd
      obtain ⟨i, hi, rfl⟩ := List.mem_map.1 hd
      exact (hF i (List.mem_range.1 hi)).2.2

theorem read_any (x : ByteArray) (A : Option Addr) (n c : Nat) (ds : List OpD) (w : World) (hn : ds.length = n) (hA : Acts w w.heap.size A ds) (hf : ∀ d ∈ ds, d.fits) (hm : n ≤ 9223372036854775807) :
    Calls Tryd.prog 3 #[.string x, .slice A n c] w fun e w' => e = .returned (.bool true) ∧ Below w.heap.size w w' := by
  by_cases h : x.size ≤ 2000
  · subst hn
    exact read_in x A c ds w h hA hf hm
  · exact read_out x A n c w (by omega)

set_option maxRecDepth 100000 in
theorem contract (H : Type) (enc : TypeId × Value → H) (W : World) (base : Nat) (args : Array Value) (ds gs : List (DataW H)) (before : List MemPlace)
    (hval : ∀ (j : Nat) t v, Tryd.f3.params[j]? = some t → args[j]? = some v → Value.okWide Tryd.prog W .any base t v)
    (hW : DataW.Whole enc Tryd.prog Tryd.f3.params.toList Rows.bitsReadSpec.vars false W args.toList ds gs before) :
    Calls Tryd.prog 3 args W fun e W' => ∃ v, e = .returned v ∧ Rows.bitsReadSpec.post enc Tryd.prog Tryd.f3 false true false false W args v W' := by
  have hW' := hW
  obtain ⟨p, q, hA0, hV, rfl, hfz, hnd⟩ := hW
  have hA : DataW.TrodAll enc Tryd.prog W 0 (fun _ => true) true Tryd.f3.params.toList args.toList ds p := hA0
  rw [Tryd.params3] at hA hval
  obtain ⟨v0, vs0, d0, ds0, p0, q0, hargs, rfl, rfl, h0, r0⟩ := trodAll_cons hA
  obtain ⟨v1, vs1, d1, ds1, p1, q1, rfl, rfl, rfl, h1, r1⟩ := trodAll_cons r0
  obtain ⟨rfl, rfl, rfl⟩ := trodAll_nil r1
  obtain rfl : args = #[v0, v1] := by cases args; simp_all
  obtain ⟨rfl, rfl⟩ := trodVars_none hV
  obtain ⟨x, rfl, rfl, rfl, hmax⟩ := open_string Tryd.underlying9 (hval 0 9 v0 rfl rfl) h0
  obtain ⟨a1, n1, c1, rfl⟩ := okWide_slice Tryd.underlying22 (hval 1 22 v1 rfl rfl)
  obtain ⟨os, hol, hos, hof, hom⟩ := view_acts h1
  clear hA0
  have hlt : ∀ x ∈ p1, x.block < W.heap.size := fun x hx => by simpa using hW'.lt x (by simpa using hx)
  refine (read_any x a1 n1 c1 os W hol hos hof hom).mono fun e W' ⟨he, hb⟩ => ?_
  subst he
  have k1 := Below.trod laidOut (by kernel_rfl) (of_decide_eq_true (by kernel_rfl)) h1 hb (fun x hx => hlt x (by simp [hx]))
  exact ⟨_, rfl, _, _, _, [], _, [], hW', trodAll_mk1 (shut_bool Tryd.underlying4 _), trodAll_cons_mk (shut_string Tryd.underlying9 hmax) (trodAll_cons_mk k1 trodAll_mk0), rfl, hb.frame _, fun h => by cases h⟩

theorem laid_met (os : Os) : laidMet Tryd.prog Rows.bitsReadRow.laid ((laidWorld os).forCall (fun _ _ => 0) ⟨#[], #[.string .empty, .slice none 0 0], []⟩).memory :=
  laidMet_of_run' 8 (by kernel_rfl) (by kernel_rfl)
theorem reads (os : Os) {H : Type} (enc : TypeId × Value → H) : ∃ places, DataW.whole enc Tryd.prog ((laidWorld os).forCall (fun _ _ => 0) ⟨#[], #[.string .empty, .slice none 0 0], []⟩).memory Tryd.f3.params.toList Rows.bitsReadSpec.vars false #[Value.string .empty, Value.slice none 0 0].toList 8 = some ([.lit (.string []), .nil], [], places) :=
  ⟨[], by kernel_rfl⟩

set_option maxRecDepth 100000 in
theorem lifted (os : Os) (started : os.Started) (H : Type) (enc : TypeId × Value → H) (F : Stop.Interp) :
    ReturnsInHanded {} Tryd.checked os 3 .any ((OpenSpec.ofChange Rows.bitsReadSpec).preRow enc Tryd.prog Tryd.f3 Rows.bitsReadRow.domain false Rows.bitsReadRow.laid) (((OpenSpec.ofChange Rows.bitsReadSpec).at F).post enc Tryd.prog Tryd.f3 false true false false) := by
  obtain ⟨places, hx⟩ := reads os enc
  refine returnsInHanded_of_row (C := Tryd.checked) (s := OpenSpec.ofChange Rows.bitsReadSpec) own started (by kernel_rfl) Tryd.func3
    (witness_row_at (enc := enc) (C := Tryd.checked) false (laidWorld os) #[.string .empty, .slice none 0 0] rfl (by kernel_rfl) (by kernel_rfl) (by kernel_rfl)
      (OpenSpec.preRow_of_cond 8 hx (by kernel_rfl) (fun k hk => by cases hk) (by kernel_rfl) (laid_met os))) ?_
  intro W base args ds gs before hval hW _ _ _ _ _ _
  exact contract H enc W base args ds gs before hval hW

theorem said : Rows.BitsReadSaid :=
  OpenClaim.holds_of_cond 3 Tryd.f3 rfl rfl rfl rfl rfl rfl rfl ⟨rfl, rfl, rfl, rfl, rfl⟩ rfl rfl rfl rfl rfl (by kernel_rfl) Tryd.func3 (by kernel_rfl)
    (of_decide_eq_true (by kernel_rfl)) (by unfold Func.isWrapper; first | (rw [if_pos (by decide +kernel)]; kernel_rfl) | (rw [if_neg (by decide +kernel)]; exact ⟨rfl, rfl⟩))
    (fun os started H enc _ F => by rw [OpenClaim.pre_eq_preRow]; exact lifted os started H enc F)

theorem plain (f : FuncId) (fn : Func) (hf : Tryd.pinned.checked.prog.funcNamed "masonry/masonrylaw1.BitsRead" = some f) (hfn : Tryd.pinned.checked.prog.funcs[f]? = some fn) :
    false = Tryd.pinned.checked.prog.looks [] ∧ ∀ (j : Nat) t, fn.params[j]? = some t → Tryd.pinned.checked.prog.wantsStandIn t = false := by
  obtain rfl : f = 3 := Option.some.inj ((show Tryd.prog.funcNamed "masonry/masonrylaw1.BitsRead" = some 3 by kernel_rfl).symm.trans hf) |>.symm
  obtain rfl : fn = Tryd.f3 := (Option.some.inj (Tryd.func3.symm.trans hfn)).symm
  refine ⟨by kernel_rfl, fun j t ht => ?_⟩
  rw [Tryd.params3] at ht
  match j, ht with
  | 0, ht => obtain rfl := Option.some.inj (show some 9 = some t from ht); exact (show Tryd.prog.wantsStandIn 9 = false by kernel_rfl)
  | 1, ht => obtain rfl := Option.some.inj (show some 22 = some t from ht); exact (show Tryd.prog.wantsStandIn 22 = false by kernel_rfl)
  | j + 2, ht => simp at ht

/-- The card. -/
theorem card : Rows.BitsReadCardSaid :=
  Claim7.holds_tied_plain_at .later [] _ _ _ _ said (fun _ h => by cases h) (by kernel_rfl) (fun _ h => by cases h) bitsRead_row_tie rfl ⟨rfl, rfl⟩ (by kernel_rfl) rfl plain (by kernel_rfl)
end Go.Proofs.YtdfickppfihiiaaDoor.bitsRead
