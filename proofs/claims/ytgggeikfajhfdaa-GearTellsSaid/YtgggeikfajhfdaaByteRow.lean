/-
  'append([]byte(s), x)': a row of bytes that a conversion made, and one byte behind it. No statement is proved here.
-/
import Derived.Test.YtgggeikfajhfdaaGearSmall
import Derived.Lib.ConvBytes
import Derived.Lib.FrozenHead
namespace Go.Proofs.Ytgggeikfajhfdaa
open Go.RowKit

/-- Cells stored into a row whose frozen range lies behind its end. -/
theorem run_storeCells_atM (P : Program) (g o : Nat) (t : TypeId) (fz : Nat × Nat) : ∀ (vs : List Value) (i : Nat) (cur : Array Value) (w : World), w.heap[g]? = some (.cells cur t fz) → cur.size ≤ fz.1 → o + i + vs.length ≤ cur.size → (∀ v ∈ vs, v.oneCell' = true) →
    (storeCells ⟨g, o, none⟩ vs i).run P w = .ok () (w.setRow g (cur.toList.take (o + i) ++ vs ++ cur.toList.drop (o + i + vs.length)).toArray)
  | [], i, cur, w, hg, _, _, _ => by
    simp only [storeCells, List.append_nil, List.length_nil, Nat.add_zero, List.take_append_drop, Array.toArray_toList]
    rw [setRow_self w g cur t fz hg]
    rfl
  | v :: rest, i, cur, w, hg, hfz, hl, h1 => by
    have hi : o + i < cur.size := by simp at hl; omega
    have hadd : (⟨g, o, none⟩ : Addr).add i = ⟨g, o + i, none⟩ := by unfold Addr.add; split <;> simp_all
    have hcell : w.cell? ⟨g, o + i, none⟩ = some cur[o + i] := by simp [World.cell?, hg, hi]
    have hfro : w.frozen? ⟨g, o + i, none⟩ = false := by
      obtain ⟨lo, hi'⟩ := fz
      simp only [World.frozen?, hg, Bool.and_eq_false_iff, decide_eq_false_iff_not]
      left
      simp only at hfz
      omega
    have hst : (store ((⟨g, o, none⟩ : Addr).add i) v).run P w = .ok () (w.setRow g (cur.setIfInBounds (o + i) v)) := by
      rw [hadd, run_store P w _ v _ (h1 v (by simp)), hcell]
      simp [hfro, setCell_eq_setRow w g (o + i) cur t fz v hg]
    have ih := run_storeCells_atM P g o t fz rest (i + 1) (cur.setIfInBounds (o + i) v) (w.setRow g (cur.setIfInBounds (o + i) v)) (setRow_heap w g cur _ t _ hg) (by simpa using hfz) (by simp at hl ⊢; omega) (fun x hx => h1 x (by simp [hx]))
    simp only [storeCells, Sem.run_bind, hst, Result.andThen_ok, ih, setRow_setRow]
    congr 3
    have e := list_seg_step cur.toList (o + i) v rest (by simp at hl ⊢; omega)
    simpa [Array.toList_setIfInBounds, Nat.add_assoc] using e

section
variable {P : Program} (w : World)
theorem run_append_marked (t ty e : TypeId) (i : TypeInfo) (z : Value) (ht : P.underlying t = some (.slice e)) (hi : P.info? e = some i) (hz : i.zero = some z) (hsize : i.size = 1) (hby : i.bytes = 1)
    (g n cap : Nat) (cur : Array Value) (fz : Nat × Nat) (hg : w.heap[g]? = some (.cells cur e fz)) (hfz : cur.size ≤ fz.1) (hcs : cur.size = cap) (hn : n ≤ cap) (hcm : cap ≤ maxLen) (xs : List Value) (hxs : cur.toList.take n = xs)
    (a : Addr) (m c : Nat) (news : List Value) (hl : news.length = m) (hnews : ∀ j u, news[j]? = some u → w.cell? (a.add j) = some u) (h1 : ∀ u ∈ news, u.oneCell' = true) (hbytes : n + m ≤ 100000000) (B : Nat) (hB : B ≤ g) (hBw : B ≤ w.heap.size) :
    ∃ g' cap' w', (Builtin.append_ #[t, t] ty #[.slice (some ⟨g, 0, none⟩) n cap, .slice (some a) m c]).run P w = .ok (.slice (some ⟨g', 0, none⟩) (n + m) cap') w' ∧
      n + m ≤ cap' ∧ cap' ≤ maxLen ∧ B ≤ g' ∧ g' < w'.heap.size ∧ (∀ j u, (xs ++ news)[j]? = some u → w'.cell? ⟨g', j, none⟩ = some u) ∧ (∀ B', B' ≤ g → B' ≤ w.heap.size → Below B' w w') := by
  have hgl : g < w.heap.size := by
    rcases Nat.lt_or_ge g w.heap.size with hlt | hge
    · exact hlt
    · rw [Array.getElem?_eq_none hge] at hg; cases hg
  have hxl : xs.length = n := by rw [← hxs, List.length_take, Array.length_toList]; omega
  by_cases hroom : n + m ≤ cap
  · have hf := run_firstCells_some (P := P) w i.size m a m c news (by rw [hsize, hl, Nat.mul_one]) hnews
    have hst := run_storeCells_atM P g (n * i.size) e fz news 0 cur w hg hfz (by rw [hsize, hl, hcs, Nat.mul_one, Nat.add_zero]; exact hroom) h1
    rw [hsize] at hf hst
    simp only [Nat.add_zero, Nat.mul_one] at hst hf
    have hr : (Builtin.append_ #[t, t] ty #[.slice (some ⟨g, 0, none⟩) n cap, .slice (some a) m c]).run P w = .ok (.slice (some ⟨g, 0, none⟩) (n + m) cap) (w.setRow g (cur.toList.take n ++ news ++ cur.toList.drop (n + news.length)).toArray) := by
      simp [Builtin.append_, run_underlying ht, sizeOf, typeInfo, hi, hsize, Builtin.lenOf, hroom, hf, Addr.add_lit, hst]
    refine ⟨g, cap, _, hr, hroom, hcm, hB, by simpa using hgl, fun j u hu => ?_, fun B' h1 h2 => ⟨rfl, rfl, rfl, by simp, fun k hk => setRow_other w g k _ (by omega)⟩⟩
    rw [cell_of_row _ g j _ e fz (setRow_heap w g cur _ e _ hg), hxs]
    simp only [List.getElem?_toArray]
    have hj : j < (xs ++ news).length := by
      rcases Nat.lt_or_ge j (xs ++ news).length with h | h
      · exact h
      · rw [List.getElem?_eq_none h] at hu; cases hu
    rw [List.getElem?_append_left hj]
    exact hu
  · have holds : ∀ j u, xs[j]? = some u → w.cell? ((⟨g, 0, none⟩ : Addr).add j) = some u := by
      intro j u hu
      rw [Go.WideShapes.add_plain, Nat.zero_add, cell_of_row w g j cur e fz hg]
      rw [← hxs, List.getElem?_take] at hu
      split at hu
      · simpa using hu
      · cases hu
    have hr := run_append_grow (P := P) w t ty e i z ht hi hz ⟨g, 0, none⟩ n cap xs (by rw [hsize, hxl, Nat.mul_one]) holds a m c news (by rw [hsize, hl, Nat.mul_one]) hnews (by omega) (by omega) (by rw [hby]; exact growslice_fits (by omega) (by omega))
    have hge := grownCap_ge w (n + m) cap e
    have hcm2 : grownCap w (n + m) cap e ≤ maxLen := grownCap_le_maxLen w (n + m) cap e (by unfold maxLen; omega)
    refine ⟨w.heap.size, _, _, hr, hge, hcm2, hBw, by simp, fun j u hu => ?_, fun B' h1 h2 => ⟨rfl, rfl, rfl, by simp, fun k hk => heap_alloc_old w.drew _ (show k < w.heap.size by omega)⟩⟩
    rw [cell_of_row _ w.heap.size j _ e (0, 0) (heap_alloc_new w.drew _)]
    have hj : j < (xs ++ news).length := by
      rcases Nat.lt_or_ge j (xs ++ news).length with h | h
      · exact h
      · rw [List.getElem?_eq_none h] at hu; cases hu
    rw [Array.getElem?_append_left (by simpa using hj)]
    rw [← hu]
    simp

theorem wpList_append_marked {ops : Array Oper} {rest : List Oper} {o : Oper} {ac : Act} {Q : Exit → Act → World → Prop} (hgd : o.guard = none) (s x : Operand) (t e : TypeId)
    (ho : o.op = .call { callee := .builtin .append, args := #[s, x], argTypes := #[t, t] })
    (i : TypeInfo) (z : Value) (ht : P.underlying t = some (.slice e)) (hi : P.info? e = some i) (hz : i.zero = some z) (hsize : i.size = 1) (hby : i.bytes = 1)
    (g n cap : Nat) (hs : ac.eval s = .slice (some ⟨g, 0, none⟩) n cap) (cur : Array Value) (fz : Nat × Nat) (hg : w.heap[g]? = some (.cells cur e fz)) (hfz : cur.size ≤ fz.1) (hcs : cur.size = cap) (hn : n ≤ cap) (hcm : cap ≤ maxLen) (xs : List Value) (hxs : cur.toList.take n = xs)
    (a : Addr) (m c : Nat) (hx : ac.eval x = .slice (some a) m c) (news : List Value) (hl : news.length = m) (hnews : ∀ j u, news[j]? = some u → w.cell? (a.add j) = some u) (h1 : ∀ u ∈ news, u.oneCell' = true) (hbytes : n + m ≤ 100000000) (B : Nat) (hB : B ≤ g) (hBw : B ≤ w.heap.size)
    (h : ∀ g' cap' w', n + m ≤ cap' → cap' ≤ maxLen → B ≤ g' → g' < w'.heap.size → (∀ j u, (xs ++ news)[j]? = some u → w'.cell? ⟨g', j, none⟩ = some u) → (∀ B', B' ≤ g → B' ≤ w.heap.size → Below B' w w') → wpList P ops Q rest (ac.put o.dst (.slice (some ⟨g', 0, none⟩) (n + m) cap')) w') : wpList P ops Q (o :: rest) ac w :=
  wpList_plain hgd fun K hK => by
    obtain ⟨g', cap', w', hr, h2, h3, h4, h5, h6, h7⟩ := run_append_marked (P := P) w t o.type e i z ht hi hz hsize hby g n cap cur fz hg hfz hcs hn hcm xs hxs a m c news hl hnews h1 hbytes B hB hBw
    unfold Oper.wp execOp
    simp only [ho, resolve, invoke, builtin, Sem.run_bind, Sem.run_pure, Result.andThen_ok, List.map_toArray, List.map_cons, List.map_nil, hs, hx, hr]
    exact hK _ _ (h g' cap' w' h2 h3 h4 h5 h6 h7)
end

/-- The row that '[]byte(s)' makes, whole. -/
theorem conv_row (w : World) (S : ByteArray) (hS : S.size ≤ 100000) : ∃ W cap cur fz, (convert 9 28 (.string S)).run Try.prog w = .ok (.slice (some ⟨w.heap.size, 0, none⟩) S.size cap) W ∧ Below w.heap.size w W ∧
    W.heap[w.heap.size]? = some (.cells cur 5 fz) ∧ cur.size ≤ fz.1 ∧ cur.size = cap ∧ S.size ≤ cap ∧ cap ≤ maxLen ∧ cur.toList.take S.size = (S.data.toList.map fun b => Value.int .u8 (b.toNat : Int)) := by
  have hge := grownCap_ge w S.size 0 5
  have hcm := grownCap_le_maxLen w S.size 0 5 (by unfold maxLen; omega)
  have hcs : (Lib.bytesCells w 5 S).size = grownCap w S.size 0 5 := by
    have : S.data.size = S.size := rfl
    simp [Lib.bytesCells]
    omega
  refine ⟨_, _, _, _, Lib.run_convert_string_bytes (P := Try.prog) w 9 28 5 S (u := .string) Try.underlying9 Try.underlying28 Try.underlying5, ?_, Lib.bytesWorld_at_new w _ S, Nat.le_refl _, hcs, hge, hcm, ?_⟩
  · exact ⟨rfl, rfl, rfl, by rw [Lib.bytesWorld_size]; omega, fun i hi => Lib.bytesWorld_at_old w _ S i hi⟩
  · unfold Lib.bytesCells
    rw [Array.toList_append, List.take_append_of_le_length (by simp)]
    rw [List.take_of_length_le (by simp), Array.toList_map]
end Go.Proofs.Ytgggeikfajhfdaa
