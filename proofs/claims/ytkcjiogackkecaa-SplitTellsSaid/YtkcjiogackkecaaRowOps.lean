/-
  A run of cells loaded and stored at once: an array, or an array in a field. No statement is proved here.
-/
import Derived.Test.YtkcjiogackkecaaWords
import Derived.Tactics
import Derived.Laws.Rows
import Derived.Laws.Tables
import Derived.Laws.World
import Derived.Laws.CopyOwn
namespace Go.Proofs.Ytkcjiogackkecaa
open Go.RowKit

section
variable {P : Program} {w w' : World} {g off : Nat} {t ty : TypeId} {C cs : Array Value}
theorem add_off (g off j : Nat) : (⟨g, off, none⟩ : Addr).add j = ⟨g, off + j, none⟩ := by unfold Addr.add; split <;> simp_all
theorem run_var_part (h : Blk w g t C) (hc : ∀ (j : Nat) (v : Value), cs[j]? = some v → C[off + j]? = some v) (ha : ∀ w, (isAgg ty).run P w = .ok true w) (hs : ∀ w, (sizeOf ty).run P w = .ok cs.size w) :
    (loadVar ty ⟨g, off, none⟩).run P w = .ok (.agg cs) w := by
  have hl : (loadCells ⟨g, off, none⟩ cs.toList.length).run P w = .ok cs.toList.toArray w :=
    run_loadCells_list (P := P) w ⟨g, off, none⟩ cs.toList (fun j v hv => by rw [add_off, h.cell]; exact hc j v (by simpa using hv))
  have e : cs.toList.length = cs.size := by simp
  rw [e] at hl
  simp [loadVar, Sem.run_bind, ha, hs, hl, Result.andThen]
theorem run_load_part (h : Blk w g t C) (hc : ∀ (j : Nat) (v : Value), cs[j]? = some v → C[off + j]? = some v) (ha : ∀ w, (isAgg ty).run P w = .ok true w) (hs : ∀ w, (sizeOf ty).run P w = .ok cs.size w) :
    (Instr.loadAt ty (.pointer (some ⟨g, off, none⟩))).run P w = .ok (.agg cs) w := by
  have := run_var_part (P := P) h hc ha hs
  simp only [Instr.loadAt, Instr.sureAddr, Sem.run_bind, Sem.run_pure, Result.andThen, this]
theorem blk_setRow (h : Blk w g t C) (cs : Array Value) : Blk (w.setRow g cs) g t cs := setRow_heap w g C cs t _ h
theorem blk_setRow_far {g' : Nat} (h : Blk w g t C) (hg : g ≠ g') (cs : Array Value) : Blk (w.setRow g' cs) g t C := (setRow_other w g' g cs hg).trans h
theorem by_setRow {row : Nat} {w0 : World} (h : w0.grownBy w (some row)) (cs : Array Value) : w0.grownBy (w.setRow row cs) (some row) :=
  ⟨h.os, h.tape, h.output, by simpa using h.size, fun i hi hr => (setRow_other w row i cs (fun e => hr (by rw [e]))).trans (h.block i hi hr)⟩

/-- A run of cells into a row. -/
theorem run_storeCells_part (t : TypeId) : ∀ (vs : List Value) (i : Nat) (cur : Array Value) (w : World), Blk w g t cur → off + i + vs.length ≤ cur.size → (∀ v ∈ vs, v.oneCell' = true) →
    (storeCells ⟨g, off, none⟩ vs i).run P w = .ok () (w.setRow g (cur.toList.take (off + i) ++ vs ++ cur.toList.drop (off + i + vs.length)).toArray)
  | [], i, cur, w, hg, hl, _ => by
    have : cur.toList.take (off + i) ++ [] ++ cur.toList.drop (off + i + ([] : List Value).length) = cur.toList := by simp
    rw [this]
    simp only [storeCells]
    have hw : w.setRow g cur.toList.toArray = w := by
      have hlt : g < w.heap.size := hg.lt
      have hv : w.heap[g] = .cells cur t (0, 0) := (Array.getElem?_eq_some_iff.1 hg).2
      unfold World.setRow
      cases w with
      | mk heap tape drawn os output =>
        congr 1
        apply Array.ext
        · simp
        · intro k h1 h2
          simp only [Array.getElem_modify]
          split
          · rename_i hk; subst hk; simp at hv; simp [hv]
          · rfl
    rw [hw]
    rfl
  | v :: rest, i, cur, w, hg, hl, h1 => by
    have hi : off + i < cur.size := by simp at hl; omega
    have hcell : w.cell? ⟨g, off + i, none⟩ = some cur[off + i] := by rw [hg.cell]; simp [hi]
    have hfro : w.frozen? ⟨g, off + i, none⟩ = false := hg.frozen _
    have hst : (store ((⟨g, off, none⟩ : Addr).add i) v).run P w = .ok () (w.setRow g (cur.setIfInBounds (off + i) v)) := by
      rw [add_off, run_store P w _ v _ (h1 v (by simp)), hcell]
      simp [hfro, setCell_eq_setRow w g (off + i) cur t (0, 0) v hg]
    have ih := run_storeCells_part t rest (i + 1) (cur.setIfInBounds (off + i) v) (w.setRow g (cur.setIfInBounds (off + i) v)) (blk_setRow hg _) (by simp at hl ⊢; omega) (fun x hx => h1 x (by simp [hx]))
    simp only [storeCells, Sem.run_bind, hst, Result.andThen_ok, ih, setRow_setRow]
    congr 3
    apply List.ext_getElem?
    intro k
    simp only [Array.toList_setIfInBounds, List.getElem?_append, List.length_append, List.length_take, List.length_set, Array.length_toList, List.getElem?_drop, List.length_cons]
    have m1 : min (off + i) cur.size = off + i := by omega
    have m2 : min (off + (i + 1)) cur.size = off + i + 1 := by omega
    simp only [m1, m2, List.getElem?_take]
    by_cases hk : k < off + i
    · simp [hk, show k < off + i + 1 by omega, show k < off + i + (rest.length + 1) by omega, show k < off + i + 1 + rest.length by omega, show off + i ≠ k by omega, show k < off + (i + 1) by omega]
    · by_cases hk2 : k = off + i
      · subst hk2
        simp [show off + i < off + (i + 1) by omega, hi, show off + i < off + i + 1 + rest.length by omega]
      · have e1 : ¬ k < off + i + 1 := by omega
        by_cases hk3 : k < off + i + 1 + rest.length
        · simp [hk, e1, hk3, show k < off + i + (rest.length + 1) by omega, show k - (off + i) = (k - (off + i + 1)) + 1 by omega]
        · simp [hk3, show ¬ k < off + i + (rest.length + 1) by omega, show off + i ≠ off + (i + 1) + rest.length + (k - (off + i + 1 + rest.length)) by omega]
          congr 1
          omega
theorem run_store_part (h : Blk w g t C) (hl : off + cs.size ≤ C.size) (h1 : cs.all (·.oneCell') = true) (hs : ∀ w, (sizeOf ty).run P w = .ok cs.size w) :
    (Instr.storeAt ty (.pointer (some ⟨g, off, none⟩)) (.agg cs)).run P w = .ok () (w.setRow g (C.toList.take off ++ cs.toList ++ C.toList.drop (off + cs.size)).toArray) := by
  have := run_storeCells_part (P := P) t cs.toList 0 C w h (by simpa using hl) (fun v hv => (Array.all_eq_true_iff_forall_mem.1 h1) v (by simpa using hv))
  simp only [Instr.storeAt, Instr.sureAddr, Sem.run_bind, Sem.run_pure, Result.andThen]
  simp only [Nat.add_zero, Array.length_toList] at this
  simp [storeVar, Sem.run_bind, hs, Result.andThen, Value.cells, this]
theorem store_whole (h : Blk w g t C) (hl : cs.size = C.size) (h1 : cs.all (·.oneCell') = true) (hs : ∀ w, (sizeOf ty).run P w = .ok cs.size w) :
    (Instr.storeAt ty (.pointer (some ⟨g, 0, none⟩)) (.agg cs)).run P w = .ok () (w.setRow g cs) := by
  have := run_store_part (P := P) (off := 0) h (by omega) h1 hs
  rw [List.drop_of_length_le (by rw [Array.length_toList]; omega)] at this
  simpa using this
theorem load_whole (h : Blk w g t cs) (ha : ∀ w, (isAgg ty).run P w = .ok true w) (hs : ∀ w, (sizeOf ty).run P w = .ok cs.size w) :
    (Instr.loadAt ty (.pointer (some ⟨g, 0, none⟩))).run P w = .ok (.agg cs) w := run_load_part h (fun j v h => by rw [Nat.zero_add]; exact h) ha hs
theorem three_new (w : World) (A B C : Array Value) (t1 t2 t3 : TypeId) : ∃ W, W = ((w.alloc (.cells A t1)).alloc (.cells B t2)).alloc (.cells C t3) ∧ Blk W w.heap.size t1 A ∧ Blk W (w.heap.size + 1) t2 B ∧ Blk W (w.heap.size + 1 + 1) t3 C ∧
    Below w.heap.size w W ∧ W.heap.size = w.heap.size + 3 := by
  refine ⟨_, rfl, ((Blk.new w t1 A).alloc _).alloc _, ?_, ?_, (((Below.refl _ _).alloc (Nat.le_refl _) _).alloc (by simp) _).alloc (by simp; omega) _, by simp⟩
  · have := (Blk.new (w.alloc (.cells A t1)) t2 B).alloc (.cells C t3)
    simpa using this
  · have := Blk.new ((w.alloc (.cells A t1)).alloc (.cells B t2)) t3 C
    simpa using this
end

section
variable {P : Program} {ops : Array Oper} {rest : List Oper} {a : Act} {w w' : World} {Q : Exit → Act → World → Prop} {o : Oper} {ty : TypeId} {x y : Operand} {p v : Value}
theorem exec_load (ho : o.op = .load ty x) (hx : a.eval x = p) (hr : (Instr.loadAt ty p).run P w = .ok v w') : (execOp a.eval o).run P w = .ok (.value v) w' := by
  subst hx
  cases o
  simp only at ho
  subst ho
  show Sem.run P (Instr.loadAt ty (a.eval x) >>= fun r => pure (Next.value r)) w = _
  rw [Sem.run_bind, hr]
  rfl
theorem exec_store (ho : o.op = .store ty x y) (hx : a.eval x = p) (hy : a.eval y = v) (hr : (Instr.storeAt ty p v).run P w = .ok () w') : (execOp a.eval o).run P w = .ok .skip w' := by
  subst hx
  subst hy
  cases o
  simp only at ho
  subst ho
  show Sem.run P (Instr.storeAt ty (a.eval x) (a.eval y) >>= fun _ => pure Next.skip) w = _
  rw [Sem.run_bind, hr]
  rfl
theorem wpList_load (hgd : o.guard = none) (ho : o.op = .load ty x) (hx : a.eval x = p) (hr : (Instr.loadAt ty p).run P w = .ok v w') (h : wpList P ops Q rest (a.put o.dst v) w') : wpList P ops Q (o :: rest) a w := by
  refine wpList_plain hgd fun K hK => ?_
  subst hx
  unfold Oper.wp
  have : (execOp a.eval o).run P w = .ok (.value v) w' := by
    cases o
    simp only at ho
    subst ho
    show Sem.run P (Instr.loadAt ty (a.eval x) >>= fun r => pure (Next.value r)) w = _
    rw [Sem.run_bind, hr]
    rfl
  rw [this]
  exact hK _ _ h
theorem wpList_store (hgd : o.guard = none) (ho : o.op = .store ty x y) (hx : a.eval x = p) (hy : a.eval y = v) (hr : (Instr.storeAt ty p v).run P w = .ok () w') (h : wpList P ops Q rest (a.put o.dst undef) w') : wpList P ops Q (o :: rest) a w := by
  refine wpList_plain hgd fun K hK => ?_
  subst hx
  subst hy
  unfold Oper.wp
  have : (execOp a.eval o).run P w = .ok .skip w' := by
    cases o
    simp only at ho
    subst ho
    show Sem.run P (Instr.storeAt ty (a.eval x) (a.eval y) >>= fun _ => pure Next.skip) w = _
    rw [Sem.run_bind, hr]
    rfl
  rw [this]
  exact hK _ _ h
theorem wpList_value (hgd : o.guard = none) (hr : (execOp a.eval o).run P w = .ok (.value v) w') (h : wpList P ops Q rest (a.put o.dst v) w') : wpList P ops Q (o :: rest) a w := by
  refine wpList_plain hgd fun K hK => ?_
  unfold Oper.wp
  rw [hr]
  exact hK _ _ h
theorem wpList_call {f : FuncId} {args : Array Value} (hgd : o.guard = none) (hr : (execOp a.eval o).run P w = .ok (.enter f args) w) (hc : Calls P f args w fun e w' => ∃ v, e = .returned v ∧ wpList P ops Q rest (a.put o.dst v) w') :
    wpList P ops Q (o :: rest) a w := by
  refine wpList_plain hgd fun K hK => ?_
  unfold Oper.wp
  rw [hr]
  exact hc.mono fun e w'' ⟨v, he, h⟩ => by subst he; exact hK _ _ h
end
/-- A result that lies in a cell of its own. -/
theorem ret_cell {P : Program} {fn : Func} {R : Ending → World → Prop} {a : Act} {w : World} {q : Tmp} {ty : TypeId} {ad : Addr} {v : Value} (h : fn.results = #[.cell q ty]) (hp : a.tmps.getD q undef = .pointer (some ad))
    (hl : (loadVar ty ad).run P w = .ok v w) (hd : a.defers = []) (hR : R (.returned v) w) : bodyPost P fn R .ret a w := by
  refine bodyPost_ret (v := v) ?_ hd hR
  simp only [results, h]
  have hp' : a.tmps[q]?.getD undef = .pointer (some ad) := by simpa using hp
  simp [hp', asAddr, hl]
/-- No result. -/
theorem ret_none {P : Program} {fn : Func} {R : Ending → World → Prop} {a : Act} {w : World} (h : fn.results = #[]) (hd : a.defers = []) (hR : R (.returned (.tuple #[])) w) : bodyPost P fn R .normal a w := by
  refine bodyPost_end (v := .tuple #[]) ?_ hd hR
  simp only [results, h]
  simp
end Go.Proofs.Ytkcjiogackkecaa
