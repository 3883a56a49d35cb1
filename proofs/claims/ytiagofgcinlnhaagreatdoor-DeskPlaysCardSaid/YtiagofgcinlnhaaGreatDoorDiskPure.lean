/-
  A disk of sectors as plain data: what it holds, and what each call does to it. No statement is proved here.
-/
import Derived.Test.YtiagofgcinlnhaaGreatDoorCards
import Derived.Test.YtiagofgcinlnhaaGreatDoorTie
import Derived.WalkKit
import Derived.ProofKit
import Derived.OpenShut
import Derived.Deep.DeepHandedRow
import Derived.Lib.LaidTab
import Derived.SizedLaws
import Derived.Lib.Hide
import Derived.Lib.UnsafeStr
import Derived.Deep.Draws
import Derived.Tactics
import Derived.Laws.Rows
import Derived.Laws.Tables
import Derived.Laws.World
import Derived.Laws.CopyOwn
namespace Go.Proofs.YtiagofgcinlnhaaGreatDoor
open Go.ChangeShapes Go.WideShapes Go.ChangeAt Go.RowKit
theorem own : ownKnob Tryz.prog.godebug = none := by kernel_rfl
def firstCells : Array Value := (Go.Pinned.utf8FirstZ.map (fun n : Nat => Value.int .u8 (n : Int))).toArray
def rangeCells : Array Value := #[.int .u8 128, .int .u8 191, .int .u8 160, .int .u8 191, .int .u8 128, .int .u8 159, .int .u8 144, .int .u8 191, .int .u8 128, .int .u8 143,
  .int .u8 0, .int .u8 0, .int .u8 0, .int .u8 0, .int .u8 0, .int .u8 0, .int .u8 0, .int .u8 0, .int .u8 0, .int .u8 0, .int .u8 0, .int .u8 0,
  .int .u8 0, .int .u8 0, .int .u8 0, .int .u8 0, .int .u8 0, .int .u8 0, .int .u8 0, .int .u8 0, .int .u8 0, .int .u8 0]
def refill (cs : Array Value) : Obj → Obj
  | .cells _ t frozen => .cells cs t frozen
  | o => o
noncomputable def laidWorld (os : Os) : World :=
  { World.holding Tryz.prog os ⟨#[], #[], []⟩ with
    heap := ((World.holding Tryz.prog os ⟨#[], #[], []⟩).heap.modify 1 (refill firstCells)).modify 2 (refill rangeCells) }
open Go.RowKit
def Blk (w : World) (g : Nat) (t : TypeId) (cs : Array Value) : Prop := w.heap[g]? = some (.cells cs t (0, 0))
section
variable {w w' w'' : World} {g : Nat} {t : TypeId} {cs : Array Value} {row : Option Nat}
theorem Blk.lt (h : Blk w g t cs) : g < w.heap.size := by
  rcases Nat.lt_or_ge g w.heap.size with hlt | hge
  · exact hlt
  · unfold Blk at h; rw [Array.getElem?_eq_none hge] at h; cases h
theorem Blk.cell (h : Blk w g t cs) (i : Nat) : w.cell? ⟨g, i, none⟩ = cs[i]? := cell_of_row w g i cs t (0, 0) h
theorem Blk.frozen (h : Blk w g t cs) (i : Nat) : w.frozen? ⟨g, i, none⟩ = false := by
  unfold Blk at h
  simp [World.frozen?, h]
theorem Blk.new (w : World) (t : TypeId) (cs : Array Value) : Blk (w.alloc (.cells cs t)) w.heap.size t cs := heap_alloc_new w _
theorem Blk.alloc (h : Blk w g t cs) (o : Obj) : Blk (w.alloc o) g t cs := (Below.heap_alloc w o g h.lt).trans h
theorem Blk.drew (h : Blk w g t cs) : Blk w.drew g t cs := h
theorem Blk.drewN (h : Blk w g t cs) (n : Nat) : Blk (w.drewN n) g t cs := h
theorem Blk.put (h : Blk w g t cs) (i : Nat) (u : Value) : Blk (w.setCell ⟨g, i, none⟩ u) g t (cs.setIfInBounds i u) := by
  unfold Blk at h ⊢
  simp [World.setCell, Array.getElem?_modify, h]
theorem Blk.far (h : Blk w g t cs) {p : Addr} (hp : g ≠ p.block) (u : Value) : Blk (w.setCell p u) g t cs := (Below.heap_setCell w p u g hp).trans h
theorem Blk.below {B : Nat} (h : Blk w g t cs) (hb : Below B w w') (hg : g < B) : Blk w' g t cs := (hb.block g hg).trans h
theorem Blk.grown (h : Blk w g t cs) (hb : w.grownBy w' row) (hg : some g ≠ row) : Blk w' g t cs := (hb.block g h.lt hg).trans h
theorem by_refl (w : World) (row : Option Nat) : w.grownBy w row := ⟨rfl, rfl, rfl, Nat.le_refl _, fun _ _ _ => rfl⟩
theorem by_trans (h : w.grownBy w' row) (k : w'.grownBy w'' row) : w.grownBy w'' row :=
  ⟨k.os.trans h.os, k.tape.trans h.tape, k.output.trans h.output, Nat.le_trans h.size k.size, fun i hi hr => (k.block i (Nat.lt_of_lt_of_le hi h.size) hr).trans (h.block i hi hr)⟩
theorem by_drew (h : w.grownBy w' row) : w.grownBy w'.drew row := ⟨h.os, h.tape, h.output, h.size, h.block⟩
theorem by_drewN (h : w.grownBy w' row) (n : Nat) : w.grownBy (w'.drewN n) row := ⟨h.os, h.tape, h.output, h.size, h.block⟩
theorem by_alloc (h : w.grownBy w' row) (o : Obj) : w.grownBy (w'.alloc o) row :=
  by_trans h ⟨rfl, rfl, rfl, by simp, fun k hk _ => Below.heap_alloc _ _ _ hk⟩
theorem by_put (h : w.grownBy w' (some g)) (i : Nat) (u : Value) : w.grownBy (w'.setCell ⟨g, i, none⟩ u) (some g) :=
  by_trans h ⟨rfl, rfl, rfl, by simp [World.setCell], fun k _ hr => Below.heap_setCell _ _ _ _ (fun e => hr (by rw [e]))⟩
theorem by_below {B : Nat} (hb : Below B w w') (hB : w.heap.size ≤ B) : w.grownBy w' row :=
  ⟨hb.os, hb.tape, hb.output, hb.size, fun k hk _ => hb.block k (by omega)⟩
theorem below_by (h : w.grownBy w' none) : Below w.heap.size w w' := ⟨h.os, h.tape, h.output, h.size, fun i hi => h.block i hi (by simp)⟩
theorem below_by_new {g' : Nat} {w0 : World} (h : Below w0.heap.size w0 w) (k : w.grownBy w' (some g')) (hg : w0.heap.size ≤ g') : Below w0.heap.size w0 w' :=
  ⟨k.os.trans h.os, k.tape.trans h.tape, k.output.trans h.output, Nat.le_trans h.size k.size, fun i hi => (k.block i (Nat.lt_of_lt_of_le hi h.size) (fun e => by injection e; omega)).trans (h.block i hi)⟩
end
section
variable {P : Program} {w w' : World} {g off : Nat} {t ty : TypeId} {C cs : Array Value}
theorem add_off (g off j : Nat) : (⟨g, off, none⟩ : Addr).add j = ⟨g, off + j, none⟩ := by unfold Addr.add; split <;> simp_all
theorem run_var_part (h : Blk w g t C) (hc : ∀ (j : Nat) (v : Value), cs[j]? = some v → C[off + j]? = some v) (ha : ∀ w, (isAgg ty).run P w = .ok true w) (hs : ∀ w, (sizeOf ty).run P w = .ok cs.size w) :
    (loadVar ty ⟨g, off, none⟩).run P w = .ok (.agg cs) w := by
  have hl : (loadCells ⟨g, off, none⟩ cs.toList.length).run P w = .ok cs.toList.toArray w :=
    run_loadCells_list (P := P) w ⟨g, off, none⟩ cs.toList (fun j v hv => by rw [add_off, h.cell]; exact hc j v (by simpa using hv))
  have e : cs.toList.length = cs.size := by simp
  rw [e] at hl
  simp [loadVar, Sem.run_bind, ha, hs, hl, Result.andThen]
theorem run_load_part (h : Blk w g t C) (hc : ∀ (j : Nat) (v : Value), cs[j]? = some v → C[off + j]? = some v) (ha : ∀ w, (isAgg ty).run P w = .ok true w) (hs : ∀ w, (sizeOf ty).run P w = .ok cs.size w) :
    (Instr.loadAt ty (.pointer (some ⟨g, off, none⟩))).run P w = .ok (.agg cs) w := by
  have := run_var_part (P := P) h hc ha hs
  simp only [Instr.loadAt, Instr.sureAddr, Sem.run_bind, Sem.run_pure, Result.andThen, this]
theorem blk_setRow (h : Blk w g t C) (cs : Array Value) : Blk (w.setRow g cs) g t cs := setRow_heap w g C cs t _ h
theorem run_storeCells_part (t : TypeId) : ∀ (vs : List Value) (i : Nat) (cur : Array Value) (w : World), Blk w g t cur → off + i + vs.length ≤ cur.size → (∀ v ∈ vs, v.oneCell' = true) →
    (storeCells ⟨g, off, none⟩ vs i).run P w = .ok () (w.setRow g (cur.toList.take (off + i) ++ vs ++ cur.toList.drop (off + i + vs.length)).toArray)
  | [], i, cur, w, hg, hl, _ => by
    have : cur.toList.take (off + i) ++ [] ++ cur.toList.drop (off + i + ([] : List Value).length) = cur.toList := by simp
    rw [this]
    simp only [storeCells]
    have hw : w.setRow g cur.toList.toArray = w := by
      have hlt : g < w.heap.size := hg.lt
      have hv : w.heap[g] = .cells cur t (0, 0) := (Array.getElem?_eq_some_iff.1 hg).2
      unfold World.setRow
      cases w with
      | mk heap tape drawn os output =>
        congr 1
        apply Array.ext
        · simp
        · intro k h1 h2
          simp only [Array.getElem_modify]
          split
          · rename_i hk; subst hk; simp at hv; simp [hv]
          · rfl
    rw [hw]
    rfl
  | v :: rest, i, cur, w, hg, hl, h1 => by
    have hi : off + i < cur.size := by simp at hl; omega
    have hcell : w.cell? ⟨g, off + i, none⟩ = some cur[off + i] := by rw [hg.cell]; simp [hi]
    have hfro : w.frozen? ⟨g, off + i, none⟩ = false := hg.frozen _
    have hst : (store ((⟨g, off, none⟩ : Addr).add i) v).run P w = .ok () (w.setRow g (cur.setIfInBounds (off + i) v)) := by
      rw [add_off, run_store P w _ v _ (h1 v (by simp)), hcell]
      simp [hfro, setCell_eq_setRow w g (off + i) cur t (0, 0) v hg]
    have ih := run_storeCells_part t rest (i + 1) (cur.setIfInBounds (off + i) v) (w.setRow g (cur.setIfInBounds (off + i) v)) (blk_setRow hg _) (by simp at hl ⊢; omega) (fun x hx => h1 x (by simp [hx]))
    simp only [storeCells, Sem.run_bind, hst, Result.andThen_ok, ih, setRow_setRow]
    congr 3
    apply List.ext_getElem?
    intro k
    simp only [Array.toList_setIfInBounds, List.getElem?_append, List.length_append, List.length_take, List.length_set, Array.length_toList, List.getElem?_drop, List.length_cons]
    have m1 : min (off + i) cur.size = off + i := by omega
    have m2 : min (off + (i + 1)) cur.size = off + i + 1 := by omega
    simp only [m1, m2, List.getElem?_take]
    by_cases hk : k < off + i
    · simp [hk, show k < off + i + 1 by omega, show k < off + i + (rest.length + 1) by omega, show k < off + i + 1 + rest.length by omega, show off + i ≠ k by omega, show k < off + (i + 1) by omega]
    · by_cases hk2 : k = off + i
      · subst hk2
        simp [show off + i < off + (i + 1) by omega, hi, show off + i < off + i + 1 + rest.length by omega]
      · have e1 : ¬ k < off + i + 1 := by omega
        by_cases hk3 : k < off + i + 1 + rest.length
        · simp [hk, e1, hk3, show k < off + i + (rest.length + 1) by omega, show k - (off + i) = (k - (off + i + 1)) + 1 by omega]
        · simp [hk3, show ¬ k < off + i + (rest.length + 1) by omega, show off + i ≠ off + (i + 1) + rest.length + (k - (off + i + 1 + rest.length)) by omega]
          congr 1
          omega
theorem run_store_part (h : Blk w g t C) (hl : off + cs.size ≤ C.size) (h1 : cs.all (·.oneCell') = true) (hs : ∀ w, (sizeOf ty).run P w = .ok cs.size w) :
    (Instr.storeAt ty (.pointer (some ⟨g, off, none⟩)) (.agg cs)).run P w = .ok () (w.setRow g (C.toList.take off ++ cs.toList ++ C.toList.drop (off + cs.size)).toArray) := by
  have := run_storeCells_part (P := P) t cs.toList 0 C w h (by simpa using hl) (fun v hv => (Array.all_eq_true_iff_forall_mem.1 h1) v (by simpa using hv))
  simp only [Instr.storeAt, Instr.sureAddr, Sem.run_bind, Sem.run_pure, Result.andThen]
  simp only [Nat.add_zero, Array.length_toList] at this
  simp [storeVar, Sem.run_bind, hs, Result.andThen, Value.cells, this]
theorem store_whole (h : Blk w g t C) (hl : cs.size = C.size) (h1 : cs.all (·.oneCell') = true) (hs : ∀ w, (sizeOf ty).run P w = .ok cs.size w) :
    (Instr.storeAt ty (.pointer (some ⟨g, 0, none⟩)) (.agg cs)).run P w = .ok () (w.setRow g cs) := by
  have := run_store_part (P := P) (off := 0) h (by omega) h1 hs
  rw [List.drop_of_length_le (by rw [Array.length_toList]; omega)] at this
  simpa using this
theorem load_whole (h : Blk w g t cs) (ha : ∀ w, (isAgg ty).run P w = .ok true w) (hs : ∀ w, (sizeOf ty).run P w = .ok cs.size w) :
    (Instr.loadAt ty (.pointer (some ⟨g, 0, none⟩))).run P w = .ok (.agg cs) w := run_load_part h (fun j v h => by rw [Nat.zero_add]; exact h) ha hs
end
section
variable {P : Program} {ops : Array Oper} {rest : List Oper} {a : Act} {w w' : World} {Q : Exit → Act → World → Prop} {o : Oper} {ty : TypeId} {x y : Operand} {p v : Value}
theorem wpList_load (hgd : o.guard = none) (ho : o.op = .load ty x) (hx : a.eval x = p) (hr : (Instr.loadAt ty p).run P w = .ok v w') (h : wpList P ops Q rest (a.put o.dst v) w') : wpList P ops Q (o :: rest) a w := by
  refine wpList_plain hgd fun K hK => ?_
  subst hx
  unfold Oper.wp
  have : (execOp a.eval o).run P w = .ok (.value v) w' := by
    cases o
    simp only at ho
    subst ho
    show Sem.run P (Instr.loadAt ty (a.eval x) >>= fun r => pure (Next.value r)) w = _
    rw [Sem.run_bind, hr]
    rfl
  rw [this]
  exact hK _ _ h
theorem wpList_store (hgd : o.guard = none) (ho : o.op = .store ty x y) (hx : a.eval x = p) (hy : a.eval y = v) (hr : (Instr.storeAt ty p v).run P w = .ok () w') (h : wpList P ops Q rest (a.put o.dst undef) w') : wpList P ops Q (o :: rest) a w := by
  refine wpList_plain hgd fun K hK => ?_
  subst hx
  subst hy
  unfold Oper.wp
  have : (execOp a.eval o).run P w = .ok .skip w' := by
    cases o
    simp only at ho
    subst ho
    show Sem.run P (Instr.storeAt ty (a.eval x) (a.eval y) >>= fun _ => pure Next.skip) w = _
    rw [Sem.run_bind, hr]
    rfl
  rw [this]
  exact hK _ _ h
theorem wpList_value (hgd : o.guard = none) (hr : (execOp a.eval o).run P w = .ok (.value v) w') (h : wpList P ops Q rest (a.put o.dst v) w') : wpList P ops Q (o :: rest) a w := by
  refine wpList_plain hgd fun K hK => ?_
  unfold Oper.wp
  rw [hr]
  exact hK _ _ h
end
theorem ret_cell {P : Program} {fn : Func} {R : Ending → World → Prop} {a : Act} {w : World} {q : Tmp} {ty : TypeId} {ad : Addr} {v : Value} (h : fn.results = #[.cell q ty]) (hp : a.tmps.getD q undef = .pointer (some ad))
    (hl : (loadVar ty ad).run P w = .ok v w) (hd : a.defers = []) (hR : R (.returned v) w) : bodyPost P fn R .ret a w := by
  refine bodyPost_ret (v := v) ?_ hd hR
  simp only [results, h]
  have hp' : a.tmps[q]?.getD undef = .pointer (some ad) := by simpa using hp
  simp [hp', asAddr, hl]
theorem ret_none {P : Program} {fn : Func} {R : Ending → World → Prop} {a : Act} {w : World} (h : fn.results = #[]) (hd : a.defers = []) (hR : R (.returned (.tuple #[])) w) : bodyPost P fn R .normal a w := by
  refine bodyPost_end (v := .tuple #[]) ?_ hd hR
  simp only [results, h]
  simp
def oddI (k : Int) : Bool := decide (k % 2 = 1)
structure DS where
  now : List ByteArray
  safe : List ByteArray
  dirty : List (Nat × ByteArray)
  on : Bool
  writes : Nat
  armed : Bool
  left : Nat
  keep : List Int
def setAll (s : List ByteArray) (l : List (Nat × ByteArray)) : List ByteArray := l.foldl (fun s w => s.set w.1 w.2) s
def keptL (keep : List Int) : Nat → List (Nat × ByteArray) → List ByteArray → List ByteArray
  | _, [], s => s
  | i, w :: r, s => keptL keep (i + 1) r (if oddI (keep.getD i 0) then s.set w.1 w.2 else s)
def lostN (keep : List Int) : Nat → List (Nat × ByteArray) → Nat
  | _, [] => 0
  | i, _ :: r => (if oddI (keep.getD i 0) then 0 else 1) + lostN keep (i + 1) r
def backL (safe : List ByteArray) (l : List (Nat × ByteArray)) (s : List ByteArray) : List ByteArray := l.foldl (fun s w => s.set w.1 (safe.getD w.1 .empty)) s
structure DS.Ok (S : DS) : Prop where
  now : S.now = setAll S.safe S.dirty
  fits : ∀ w ∈ S.dirty, w.1 < S.safe.length
theorem setAll_length (s : List ByteArray) (l : List (Nat × ByteArray)) : (setAll s l).length = s.length := by
  induction l generalizing s with
  | nil => rfl
  | cons w r ih => show (setAll (s.set w.1 w.2) r).length = _; rw [ih]; simp
theorem setAll_snoc (s : List ByteArray) (l : List (Nat × ByteArray)) (w : Nat × ByteArray) : setAll s (l ++ [w]) = (setAll s l).set w.1 w.2 := by
  unfold setAll; rw [List.foldl_append]; rfl
theorem keptL_length (keep : List Int) (i : Nat) (l : List (Nat × ByteArray)) (s : List ByteArray) : (keptL keep i l s).length = s.length := by
  induction l generalizing i s with
  | nil => rfl
  | cons w r ih => show (keptL keep (i + 1) r _).length = _; rw [ih]; split <;> simp
theorem keptL_snoc (keep : List Int) (i : Nat) (l : List (Nat × ByteArray)) (w : Nat × ByteArray) (s : List ByteArray) :
    keptL keep i (l ++ [w]) s = if oddI (keep.getD (i + l.length) 0) then (keptL keep i l s).set w.1 w.2 else keptL keep i l s := by
  induction l generalizing i s with
  | nil => rfl
  | cons v r ih =>
    show keptL keep (i + 1) (r ++ [w]) _ = _
    rw [ih, List.length_cons, show i + 1 + r.length = i + (r.length + 1) by omega]
    rfl
theorem lostN_snoc (keep : List Int) (i : Nat) (l : List (Nat × ByteArray)) (w : Nat × ByteArray) : lostN keep i (l ++ [w]) = lostN keep i l + (if oddI (keep.getD (i + l.length) 0) then 0 else 1) := by
  induction l generalizing i with
  | nil => simp [lostN]
  | cons v r ih =>
    show _ + lostN keep (i + 1) (r ++ [w]) = _
    rw [ih, List.length_cons, show i + 1 + r.length = i + (r.length + 1) by omega]
    simp only [lostN]
    omega
theorem lostN_le (keep : List Int) (i : Nat) (l : List (Nat × ByteArray)) : lostN keep i l ≤ l.length := by
  induction l generalizing i with
  | nil => exact Nat.le_refl _
  | cons v r ih => have := ih (i + 1); simp only [lostN, List.length_cons]; split <;> omega
theorem backL_length (safe : List ByteArray) (l : List (Nat × ByteArray)) (s : List ByteArray) : (backL safe l s).length = s.length := by
  induction l generalizing s with
  | nil => rfl
  | cons w r ih => show (backL safe r (s.set w.1 (safe.getD w.1 .empty))).length = _; rw [ih]; simp
theorem backL_snoc (safe : List ByteArray) (l : List (Nat × ByteArray)) (w : Nat × ByteArray) (s : List ByteArray) : backL safe (l ++ [w]) s = (backL safe l s).set w.1 (safe.getD w.1 .empty) := by
  unfold backL; rw [List.foldl_append]; rfl
theorem setAll_far (l : List (Nat × ByteArray)) (s : List ByteArray) {k : Nat} (h : ∀ w ∈ l, w.1 ≠ k) : (setAll s l)[k]? = s[k]? := by
  induction l generalizing s with
  | nil => rfl
  | cons w r ih =>
    show (setAll (s.set w.1 w.2) r)[k]? = _
    rw [ih _ (fun v hv => h v (by simp [hv])), List.getElem?_set_ne (h w (by simp))]
theorem keptL_far (keep : List Int) (l : List (Nat × ByteArray)) (i : Nat) (s : List ByteArray) {k : Nat} (h : ∀ w ∈ l, w.1 ≠ k) : (keptL keep i l s)[k]? = s[k]? := by
  induction l generalizing i s with
  | nil => rfl
  | cons w r ih =>
    show (keptL keep (i + 1) r (if oddI (keep.getD i 0) then s.set w.1 w.2 else s))[k]? = _
    rw [ih _ _ (fun v hv => h v (by simp [hv]))]
    split
    · rw [List.getElem?_set_ne (h w (by simp))]
    · rfl
theorem backL_far (safe : List ByteArray) (l : List (Nat × ByteArray)) (s : List ByteArray) {k : Nat} (h : ∀ w ∈ l, w.1 ≠ k) : (backL safe l s)[k]? = s[k]? := by
  induction l generalizing s with
  | nil => rfl
  | cons w r ih =>
    show (backL safe r (s.set w.1 (safe.getD w.1 .empty)))[k]? = _
    rw [ih _ (fun v hv => h v (by simp [hv])), List.getElem?_set_ne (h w (by simp))]
theorem backL_here (safe : List ByteArray) (l : List (Nat × ByteArray)) (s : List ByteArray) {k : Nat} (hk : k < s.length) (hs : k < safe.length) (h : ∃ w ∈ l, w.1 = k) : (backL safe l s)[k]? = safe[k]? := by
  induction l generalizing s with
  | nil => obtain ⟨w, hw, _⟩ := h; cases hw
  | cons w r ih =>
    show (backL safe r (s.set w.1 (safe.getD w.1 .empty)))[k]? = _
    by_cases hr : ∃ v ∈ r, v.1 = k
    · exact ih _ (by simpa using hk) hr
    · obtain ⟨v, hv, e⟩ := h
      have hw : w.1 = k := by
        rcases List.mem_cons.1 hv with rfl | hv
        · exact e
        · exact absurd ⟨v, hv, e⟩ hr
      rw [backL_far _ _ _ (fun v hv e => hr ⟨v, hv, e⟩), hw, List.getElem?_set_self hk, List.getD_eq_getElem?_getD, List.getElem?_eq_getElem hs]
      rfl
theorem back_all {S : DS} (h : S.Ok) (keep : List Int) : backL (keptL keep 0 S.dirty S.safe) S.dirty S.now = keptL keep 0 S.dirty S.safe := by
  have hl : S.now.length = S.safe.length := by rw [h.now, setAll_length]
  apply List.ext_getElem?
  intro k
  by_cases hk : k < S.safe.length
  · by_cases hd : ∃ w ∈ S.dirty, w.1 = k
    · exact backL_here _ _ _ (by omega) (by rw [keptL_length]; exact hk) hd
    · have hf : ∀ w ∈ S.dirty, w.1 ≠ k := fun w hw e => hd ⟨w, hw, e⟩
      rw [backL_far _ _ _ hf, keptL_far _ _ _ _ hf, h.now, setAll_far _ _ hf]
  · rw [List.getElem?_eq_none (by rw [backL_length]; omega), List.getElem?_eq_none (by rw [keptL_length]; omega)]
def DS.crash (S : DS) (keep : List Int) : DS :=
  if S.on then { now := keptL keep 0 S.dirty S.safe, safe := keptL keep 0 S.dirty S.safe, dirty := [], on := false, writes := S.writes, armed := false, left := 0, keep := [] } else S
def DS.lost (S : DS) (keep : List Int) : Nat := if S.on then lostN keep 0 S.dirty else 0
def DS.fails (S : DS) : Bool := S.armed && decide (S.left = 0)
def DS.failed (S : DS) : DS := if S.armed then (if 0 < S.left then { S with left := S.left - 1 } else S.crash S.keep) else S
def DS.put (S : DS) (at_ : Nat) (data : ByteArray) : DS := { S with now := S.now.set at_ data, dirty := S.dirty ++ [(at_, data)], writes := S.writes + 1 }
def DS.write1 (S : DS) (at_ : Int) (data : ByteArray) : DS :=
  if 0 ≤ at_ ∧ at_ < (S.now.length : Int) ∧ data.size = 256 then (S.put at_.toNat data).failed else S
def DS.err1 (S : DS) (at_ : Int) (data : ByteArray) : Int :=
  if 0 ≤ at_ ∧ at_ < (S.now.length : Int) then (if data.size = 256 then (if (S.put at_.toNat data).fails then 14 else 0) else 1) else 15
def DS.writeL (S : DS) : List (Int × ByteArray) → DS
  | [] => S
  | w :: r => if S.err1 w.1 w.2 = 0 then (S.write1 w.1 w.2).writeL r else S.write1 w.1 w.2
def DS.errL (S : DS) : List (Int × ByteArray) → Int
  | [] => 0
  | w :: r => if S.err1 w.1 w.2 = 0 then (S.write1 w.1 w.2).errL r else S.err1 w.1 w.2
def DS.write (S : DS) (l : List (Int × ByteArray)) : DS := if S.on then S.writeL l else S
def DS.errW (S : DS) (l : List (Int × ByteArray)) : Int := if S.on then S.errL l else 14
def DS.flush (S : DS) : DS := if S.on then (if S.fails then S.failed else { S.failed with safe := S.now, dirty := [] }) else S
def DS.errF (S : DS) : Int := if S.on then (if S.fails then 14 else 0) else 14
def DS.restore (S : DS) : DS := { S with on := true }
def DS.arm (S : DS) (n : Int) (keep : List Int) : DS := if n < 0 then { S with armed := false, left := 0, keep := [] } else { S with armed := true, left := n.toNat, keep := keep }
def DS.read (S : DS) (at_ : Int) : ByteArray := if S.on = true ∧ 0 ≤ at_ ∧ at_ < (S.now.length : Int) then S.now.getD at_.toNat .empty else .empty
def DS.errR (S : DS) (at_ : Int) : Int := if S.on then (if 0 ≤ at_ ∧ at_ < (S.now.length : Int) then 0 else 15) else 14
def DS.fresh (n : Nat) (z : ByteArray) : DS := { now := List.replicate n z, safe := List.replicate n z, dirty := [], on := true, writes := 0, armed := false, left := 0, keep := [] }
theorem DS.Ok.fresh (n : Nat) (z : ByteArray) : (DS.fresh n z).Ok := ⟨rfl, by intro w hw; cases hw⟩
theorem DS.Ok.len {S : DS} (h : S.Ok) : S.now.length = S.safe.length := by rw [h.now, setAll_length]
theorem DS.Ok.put {S : DS} (h : S.Ok) {at_ : Nat} (ha : at_ < S.now.length) (data : ByteArray) : (S.put at_ data).Ok := by
  refine ⟨?_, ?_⟩
  · show S.now.set at_ data = setAll S.safe (S.dirty ++ [(at_, data)])
    rw [setAll_snoc, ← h.now]
  · intro w hw
    rcases List.mem_append.1 hw with hw | hw
    · exact h.fits w hw
    · simp at hw
      subst hw
      have := h.len
      show at_ < S.safe.length
      omega
theorem DS.Ok.crash {S : DS} (h : S.Ok) (keep : List Int) : (S.crash keep).Ok := by
  unfold DS.crash
  split
  · exact ⟨rfl, by intro w hw; cases hw⟩
  · exact h
theorem DS.Ok.failed {S : DS} (h : S.Ok) : S.failed.Ok := by
  unfold DS.failed
  split
  · split
    · exact ⟨h.now, h.fits⟩
    · exact h.crash _
  · exact h
theorem DS.Ok.write1 {S : DS} (h : S.Ok) (at_ : Int) (data : ByteArray) : (S.write1 at_ data).Ok := by
  unfold DS.write1
  split
  · rename_i hc
    exact (h.put (by omega) _).failed
  · exact h
theorem DS.Ok.writeL {S : DS} (h : S.Ok) (l : List (Int × ByteArray)) : (S.writeL l).Ok := by
  induction l generalizing S with
  | nil => exact h
  | cons w r ih =>
    unfold DS.writeL
    split
    · exact ih (h.write1 _ _)
    · exact h.write1 _ _
theorem DS.Ok.write {S : DS} (h : S.Ok) (l : List (Int × ByteArray)) : (S.write l).Ok := by
  unfold DS.write
  split
  · exact h.writeL l
  · exact h
theorem DS.Ok.flush {S : DS} (h : S.Ok) : S.flush.Ok := by
  unfold DS.flush
  split
  · split
    · exact h.failed
    · rename_i hf
      refine ⟨?_, by intro w hw; cases hw⟩
      show S.failed.now = S.now
      unfold DS.failed
      unfold DS.fails at hf
      split
      · split
        · rfl
        · simp_all
      · rfl
  · exact h
theorem DS.Ok.restore {S : DS} (h : S.Ok) : S.restore.Ok := ⟨h.now, h.fits⟩
theorem DS.Ok.arm {S : DS} (h : S.Ok) (n : Int) (keep : List Int) : (S.arm n keep).Ok := by
  unfold DS.arm
  split <;> exact ⟨h.now, h.fits⟩
theorem DS.crash_len {S : DS} (h : S.Ok) (keep : List Int) : (S.crash keep).now.length = S.now.length := by
  unfold DS.crash
  split
  · show (keptL keep 0 S.dirty S.safe).length = _
    rw [keptL_length, h.len]
  · rfl
theorem DS.failed_len {S : DS} (h : S.Ok) : S.failed.now.length = S.now.length := by
  unfold DS.failed
  split
  · split
    · rfl
    · exact DS.crash_len h _
  · rfl
theorem DS.write1_len {S : DS} (h : S.Ok) (at_ : Int) (data : ByteArray) : (S.write1 at_ data).now.length = S.now.length := by
  unfold DS.write1
  split
  · rename_i hc
    rw [DS.failed_len (h.put (by omega) _)]
    show (S.now.set _ _).length = _
    simp
  · rfl
theorem DS.failed_writes (S : DS) : S.failed.writes = S.writes := by
  unfold DS.failed DS.crash
  split <;> (try split) <;> (try split) <;> rfl
theorem DS.write1_writes (S : DS) (at_ : Int) (data : ByteArray) : (S.write1 at_ data).writes ≤ S.writes + 1 := by
  unfold DS.write1
  split
  · rw [DS.failed_writes]; exact Nat.le_refl _
  · omega
theorem DS.failed_dirty (S : DS) : S.failed.dirty.length ≤ S.dirty.length := by
  unfold DS.failed DS.crash
  split <;> (try split) <;> (try split) <;> simp
theorem DS.write1_dirty (S : DS) (at_ : Int) (data : ByteArray) : (S.write1 at_ data).dirty.length ≤ S.dirty.length + 1 := by
  unfold DS.write1
  split
  · refine Nat.le_trans (DS.failed_dirty _) ?_
    show (S.dirty ++ [_]).length ≤ _
    simp
  · omega
theorem DS.write1_on {S : DS} {at_ : Int} {data : ByteArray} (h : S.err1 at_ data = 0) (ho : S.on = true) : (S.write1 at_ data).on = true := by
  unfold DS.err1 at h
  split at h
  · rename_i h1
    split at h
    · rename_i h2
      split at h
      · cases h
      · rename_i h3
        unfold DS.write1
        rw [if_pos ⟨h1.1, h1.2, h2⟩]
        unfold DS.fails at h3
        unfold DS.failed
        split
        · split
          · exact ho
          · simp_all
        · exact ho
    · cases h
  · cases h
end Go.Proofs.YtiagofgcinlnhaaGreatDoor
