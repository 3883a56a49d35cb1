/-
  A block mixed in: the code's.
-/
import Derived.Test.YtingkbeifohihaaGreatDoorMarkSmall
import Derived.Tactics
import Derived.Laws.Rows
import Derived.Laws.Tables
import Derived.Laws.World
import Derived.Laws.CopyOwn
import Derived.Test.YtingkbeifohihaaGreatDoorBytes
import Derived.StillTailTactics
import Derived.Deep.RegionWith
import Derived.Deep.DeepCutAuto
import Derived.Outline
namespace Go.Proofs.YtingkbeifohihaaGreatDoor
open Go.RowKit
section
variable {P : Program} {w w' : World} {g off : Nat} {t ty : TypeId} {C cs : Array Value}
theorem fY (g off j : Nat) : (⟨g, off, none⟩ : Addr).add j = ⟨g, off + j, none⟩ := by unfold Addr.add; split <;> simp_all
theorem aT (h : aG w g t C) (hc : ∀ (j : Nat) (v : Value), cs[j]? = some v -> C[off + j]? = some v) (ha : ∀ w, (isAgg ty).run P w = .ok true w) (hs : ∀ w, (sizeOf ty).run P w = .ok cs.size w) :
  (loadVar ty ⟨g, off, none⟩).run P w = .ok (.agg cs) w := by
 have hl : (loadCells ⟨g, off, none⟩ cs.toList.length).run P w = .ok cs.toList.toArray w :=
  run_loadCells_list (P := P) w ⟨g, off, none⟩ cs.toList (fun j v hv => by rw [fY, h.cell]; exact hc j v (by simpa using hv))
 have e : cs.toList.length = cs.size := by simp
 rw [e] at hl
 simp [loadVar, Sem.run_bind, ha, hs, hl, Result.andThen]
theorem fA (h : aG w g t C) (hc : ∀ (j : Nat) (v : Value), cs[j]? = some v -> C[off + j]? = some v) (ha : ∀ w, (isAgg ty).run P w = .ok true w) (hs : ∀ w, (sizeOf ty).run P w = .ok cs.size w) :
  (Instr.loadAt ty (.pointer (some ⟨g, off, none⟩))).run P w = .ok (.agg cs) w := by
 have := aT (P := P) h hc ha hs
 simp only [Instr.loadAt, Instr.sureAddr, Sem.run_bind, Sem.run_pure, Result.andThen, this]
theorem bQ (h : aG w g t C) (cs : Array Value) : aG (w.setRow g cs) g t cs := setRow_heap w g C cs t _ h
theorem cK {g' : Nat} (h : aG w g t C) (hg : g ≠ g') (cs : Array Value) : aG (w.setRow g' cs) g t C := (setRow_other w g' g cs hg).trans h
theorem Ap {row : Nat} {w0 : World} (h : w0.grownBy w (some row)) (cs : Array Value) : w0.grownBy (w.setRow row cs) (some row) :=
 ⟨h.os, h.tape, h.output, by simpa using h.size, fun i hi hr => (setRow_other w row i cs (fun e => hr (by rw [e]))).trans (h.block i hi hr)⟩
theorem fP (t : TypeId) : ∀ (vs : List Value) (i : Nat) (cur : Array Value) (w : World), aG w g t cur -> off + i + vs.length <= cur.size -> (∀ v ∈ vs, v.oneCell' = true) ->
  (storeCells ⟨g, off, none⟩ vs i).run P w = .ok () (w.setRow g (cur.toList.take (off + i) ++ vs ++ cur.toList.drop (off + i + vs.length)).toArray)
 | [], i, cur, w, hg, hl, _ => by
   have : cur.toList.take (off + i) ++ [] ++ cur.toList.drop (off + i + ([] : List Value).length) = cur.toList := by simp
   rw [this]
   simp only [storeCells]
   have hw : w.setRow g cur.toList.toArray = w := by
    have hlt : g < w.heap.size := hg.lt
    have hv : w.heap[g] = .cells cur t (0, 0) := (Array.getElem?_eq_some_iff.1 hg).2
    unfold World.setRow
    cases w with
    | mk heap tape drawn os output =>
      congr 1
      apply Array.ext
      ·simp
      ·intro k h1 h2
       simp only [Array.getElem_modify]
       split
       ·rename_i hk; subst hk; simp at hv; simp [hv]
       ·rfl
   rw [hw]
   rfl
 | v :: rest, i, cur, w, hg, hl, h1 => by
   have hi : off + i < cur.size := by simp at hl; omega
   have hcell : w.cell? ⟨g, off + i, none⟩ = some cur[off + i] := by rw [hg.cell]; simp [hi]
   have hfro : w.frozen? ⟨g, off + i, none⟩ = false := hg.frozen _
   have hst : (store ((⟨g, off, none⟩ : Addr).add i) v).run P w = .ok () (w.setRow g (cur.setIfInBounds (off + i) v)) := by
    rw [fY, run_store P w _ v _ (h1 v (by simp)), hcell]
    simp [hfro, setCell_eq_setRow w g (off + i) cur t (0, 0) v hg]
   have ih := fP t rest (i + 1) (cur.setIfInBounds (off + i) v) (w.setRow g (cur.setIfInBounds (off + i) v)) (bQ hg _) (by simp at hl ⊢; omega) (fun x hx => h1 x (by simp [hx]))
   simp only [storeCells, Sem.run_bind, hst, Result.andThen_ok, ih, setRow_setRow]
   congr 3
   apply List.ext_getElem?
   intro k
   simp only [Array.toList_setIfInBounds, List.getElem?_append, List.length_append, List.length_take, List.length_set, Array.length_toList, List.getElem?_drop, List.length_cons]
   have m1 : min (off + i) cur.size = off + i := by omega
   have m2 : min (off + (i + 1)) cur.size = off + i + 1 := by omega
   simp only [m1, m2, List.getElem?_take]
   by_cases hk : k < off + i
   ·simp [hk, show k < off + i + 1 by omega, show k < off + i + (rest.length + 1) by omega, show k < off + i + 1 + rest.length by omega, show off + i ≠ k by omega, show k < off + (i + 1) by omega]
   ·by_cases hk2 : k = off + i
    ·subst hk2
     simp [show off + i < off + (i + 1) by omega, hi, show off + i < off + i + 1 + rest.length by omega]
    ·have e1 : ¬ k < off + i + 1 := by omega
     by_cases hk3 : k < off + i + 1 + rest.length
     ·simp [hk, e1, hk3, show k < off + i + (rest.length + 1) by omega, show k - (off + i) = (k - (off + i + 1)) + 1 by omega]
     ·simp [hk3, show ¬ k < off + i + (rest.length + 1) by omega, show off + i ≠ off + (i + 1) + rest.length + (k - (off + i + 1 + rest.length)) by omega]
      congr 1
      omega
theorem kL (h : aG w g t C) (hl : off + cs.size <= C.size) (h1 : cs.all (·.oneCell') = true) (hs : ∀ w, (sizeOf ty).run P w = .ok cs.size w) :
  (Instr.storeAt ty (.pointer (some ⟨g, off, none⟩)) (.agg cs)).run P w = .ok () (w.setRow g (C.toList.take off ++ cs.toList ++ C.toList.drop (off + cs.size)).toArray) := by
 have := fP (P := P) t cs.toList 0 C w h (by simpa using hl) (fun v hv => (Array.all_eq_true_iff_forall_mem.1 h1) v (by simpa using hv))
 simp only [Instr.storeAt, Instr.sureAddr, Sem.run_bind, Sem.run_pure, Result.andThen]
 simp only [Nat.add_zero, Array.length_toList] at this
 simp [storeVar, Sem.run_bind, hs, Result.andThen, Value.cells, this]
theorem cN (h : aG w g t C) (hl : cs.size = C.size) (h1 : cs.all (·.oneCell') = true) (hs : ∀ w, (sizeOf ty).run P w = .ok cs.size w) :
  (Instr.storeAt ty (.pointer (some ⟨g, 0, none⟩)) (.agg cs)).run P w = .ok () (w.setRow g cs) := by
 have := kL (P := P) (off := 0) h (by omega) h1 hs
 rw [List.drop_of_length_le (by rw [Array.length_toList]; omega)] at this
 simpa using this
theorem eR (h : aG w g t cs) (ha : ∀ w, (isAgg ty).run P w = .ok true w) (hs : ∀ w, (sizeOf ty).run P w = .ok cs.size w) :
  (Instr.loadAt ty (.pointer (some ⟨g, 0, none⟩))).run P w = .ok (.agg cs) w := fA h (fun j v h => by rw [Nat.zero_add]; exact h) ha hs
theorem Mk (w : World) (A B C : Array Value) (t1 t2 t3 : TypeId) : ∃ W, W = ((w.alloc (.cells A t1)).alloc (.cells B t2)).alloc (.cells C t3) /\ aG W w.heap.size t1 A /\ aG W (w.heap.size + 1) t2 B /\ aG W (w.heap.size + 1 + 1) t3 C /\
  Below w.heap.size w W /\ W.heap.size = w.heap.size + 3 := by
 refine ⟨_, rfl, ((aG.new w t1 A).alloc _).alloc _, ?_, ?_, (((Below.refl _ _).alloc (Nat.le_refl _) _).alloc (by simp) _).alloc (by simp; omega) _, by simp⟩
 ·have := (aG.new (w.alloc (.cells A t1)) t2 B).alloc (.cells C t3)
  simpa using this
 ·have := aG.new ((w.alloc (.cells A t1)).alloc (.cells B t2)) t3 C
  simpa using this
end
section
variable {P : Program} {ops : Array Oper} {rest : List Oper} {a : Act} {w w' : World} {Q : Exit -> Act -> World -> Prop} {o : Oper} {ty : TypeId} {x y : Operand} {p v : Value}
theorem pM (ho : o.op = .load ty x) (hx : a.eval x = p) (hr : (Instr.loadAt ty p).run P w = .ok v w') : (execOp a.eval o).run P w = .ok (.value v) w' := by
 subst hx
 cases o
 simp only at ho
 subst ho
 show Sem.run P (Instr.loadAt ty (a.eval x) >>= fun r => pure (Next.value r)) w = _
 rw [Sem.run_bind, hr]
 rfl
theorem qO (ho : o.op = .store ty x y) (hx : a.eval x = p) (hy : a.eval y = v) (hr : (Instr.storeAt ty p v).run P w = .ok () w') : (execOp a.eval o).run P w = .ok .skip w' := by
 subst hx
 subst hy
 cases o
 simp only at ho
 subst ho
 show Sem.run P (Instr.storeAt ty (a.eval x) (a.eval y) >>= fun _ => pure Next.skip) w = _
 rw [Sem.run_bind, hr]
 rfl
theorem cZ (hgd : o.guard = none) (ho : o.op = .load ty x) (hx : a.eval x = p) (hr : (Instr.loadAt ty p).run P w = .ok v w') (h : wpList P ops Q rest (a.put o.dst v) w') : wpList P ops Q (o :: rest) a w := by
 refine wpList_plain hgd fun K hK => ?_
 subst hx
 unfold Oper.wp
 have : (execOp a.eval o).run P w = .ok (.value v) w' := by
  cases o
  simp only at ho
  subst ho
  show Sem.run P (Instr.loadAt ty (a.eval x) >>= fun r => pure (Next.value r)) w = _
  rw [Sem.run_bind, hr]
  rfl
 rw [this]
 exact hK _ _ h
theorem cL (hgd : o.guard = none) (ho : o.op = .store ty x y) (hx : a.eval x = p) (hy : a.eval y = v) (hr : (Instr.storeAt ty p v).run P w = .ok () w') (h : wpList P ops Q rest (a.put o.dst undef) w') : wpList P ops Q (o :: rest) a w := by
 refine wpList_plain hgd fun K hK => ?_
 subst hx
 subst hy
 unfold Oper.wp
 have : (execOp a.eval o).run P w = .ok .skip w' := by
  cases o
  simp only at ho
  subst ho
  show Sem.run P (Instr.storeAt ty (a.eval x) (a.eval y) >>= fun _ => pure Next.skip) w = _
  rw [Sem.run_bind, hr]
  rfl
 rw [this]
 exact hK _ _ h
theorem aK (hgd : o.guard = none) (hr : (execOp a.eval o).run P w = .ok (.value v) w') (h : wpList P ops Q rest (a.put o.dst v) w') : wpList P ops Q (o :: rest) a w := by
 refine wpList_plain hgd fun K hK => ?_
 unfold Oper.wp
 rw [hr]
 exact hK _ _ h
theorem jB {f : FuncId} {args : Array Value} (hgd : o.guard = none) (hr : (execOp a.eval o).run P w = .ok (.enter f args) w) (hc : Calls P f args w fun e w' => ∃ v, e = .returned v /\ wpList P ops Q rest (a.put o.dst v) w') :
  wpList P ops Q (o :: rest) a w := by
 refine wpList_plain hgd fun K hK => ?_
 unfold Oper.wp
 rw [hr]
 exact hc.mono fun e w'' ⟨v, he, h⟩ => by subst he; exact hK _ _ h
end
theorem dV {P : Program} {fn : Func} {R : Ending -> World -> Prop} {a : Act} {w : World} {q : Tmp} {ty : TypeId} {ad : Addr} {v : Value} (h : fn.results = #[.cell q ty]) (hp : a.tmps.getD q undef = .pointer (some ad))
  (hl : (loadVar ty ad).run P w = .ok v w) (hd : a.defers = []) (hR : R (.returned v) w) : bodyPost P fn R .ret a w := by
 refine bodyPost_ret (v := v) ?_ hd hR
 simp only [results, h]
 have hp' : a.tmps[q]?.getD undef = .pointer (some ad) := by simpa using hp
 simp [hp', asAddr, hl]
theorem xC {P : Program} {fn : Func} {R : Ending -> World -> Prop} {a : Act} {w : World} (h : fn.results = #[]) (hd : a.defers = []) (hR : R (.returned (.tuple #[])) w) : bodyPost P fn R .normal a w := by
 refine bodyPost_end (v := .tuple #[]) ?_ hd hR
 simp only [results, h]
 simp
def aF (l : List Nat) : List Value := l.map fun x : Nat => .int .u32 (x : Int)
theorem iM {l : List Nat} {i : Nat} (hi : i < l.length) : (aF l).toArray[i]? = some (.int .u32 ((l.getD i 0 : Nat) : Int)) := by
 unfold aF
 rw [List.getElem?_toArray, List.getElem?_map, List.getElem?_eq_getElem hi, List.getD_eq_getElem?_getD, List.getElem?_eq_getElem hi]; rfl
theorem eD (a b : Nat) : ((bB a b : Nat) : Int) = ((a : Int) + b) % 4294967296 := by unfold bB; omega
theorem Ei : (Tryz.prog.info? 132).map (fun i => (i.zero, i.size, i.bytes)) = some (some (.int .u32 0), 1, 4) := by kernel_rfl
theorem gX (M : ByteArray) (o n t : Nat) (ht : t < n) : (M.extract o (o + n)).data.toList.getD t 0 = M.data.toList.getD (o + t) 0 := by
 rw [ByteArray.data_extract, Array.toList_extract, List.extract_eq_take_drop, show o + n - o = n by omega, List.getD_eq_getElem?_getD, List.getD_eq_getElem?_getD, List.getElem?_take, if_pos ht, List.getElem?_drop]
theorem uE (M : ByteArray) (q j : Nat) : mK (fun t => (M.extract (64 * q + 4 * j) (64 * q + 4 * j + 4)).data.toList.getD t 0) 0 = mK (bN M.data.toList q) j := by
 unfold mK bN
 simp only [Nat.mul_zero, Nat.zero_add]
 rw [gX M _ 4 0 (by omega), gX M _ 4 1 (by omega), gX M _ 4 2 (by omega), gX M _ 4 3 (by omega)]
 simp only [Nat.add_zero, Nat.add_assoc]
theorem xJ (w : World) (M X : ByteArray) (c : Nat) (h : c + 4 <= M.size) (hX : M.extract c (c + 4) = X) :
  (Instr.slice 9 (.string M) (some (.int .i64 (c : Int))) (some (.int .i64 ((c : Int) + 4))) none).run Tryz.prog w = .ok (.string X) w := by
 have h1 : (0 : Int) <= (c : Int) + 4 := by omega
 have h2 : (c : Int) + 4 <= (M.size : Int) := by omega
 have h4 : ((c : Int) + 4).toNat = c + 4 := by omega
 simp [Instr.slice, Instr.sliceBounds, Instr.sliceBound, Sem.run_bind, run_underlying Tryz.underlying9, Result.andThen, asIntOf, h1, h2, h4, hX]
def fU (w0 w : World) (g : Nat) (H : Array Value) : Prop := aG w g 132 H /\ w0.heap.size <= g /\ Below w0.heap.size w0 w
theorem fU.new {w0 w w' : World} {g : Nat} {H : Array Value} (h : fU w0 w g H) (hg : w.grownBy w' none) : fU w0 w' g H :=
 ⟨h.1.grown hg (by intro e; cases e), h.2.1, h.2.2.trans ((fH hg).mono h.2.2.size)⟩
theorem fU.row {w0 w w' : World} {g : Nat} {H : Array Value} {v : Value} (h : fU w0 w g H) (hg : w.grownBy w' v.ownBlock) (ho : ∀ k, v.ownBlock = some k -> w0.heap.size <= k) (hne : some g ≠ v.ownBlock) : fU w0 w' g H :=
 ⟨h.1.grown hg hne, h.2.1, h.2.2.grown hg h.2.2.size ho⟩
set_option maxRecDepth 100000
set_option maxHeartbeats 1000000
def aS (p : Nat -> UInt8) (n : Nat) : List Value := (List.range n).map fun t => .int .u8 ((p t).toNat : Int)
def nB (l : List Nat) : Array Value := (aF (l ++ List.replicate (80 - l.length) 0)).toArray
theorem Au {l : List Nat} (h : l.length <= 80) : (nB l).size = 80 := by unfold nB aF; simp; omega
theorem mM {l : List Nat} (h : l.length <= 80) {i : Nat} (hi : i < 80) : (nB l)[i]? = some (.int .u32 ((l.getD i 0 : Nat) : Int)) := by
 unfold nB aF
 rw [List.getElem?_toArray, List.getElem?_map]
 by_cases hl : i < l.length
 ·rw [List.getElem?_append_left hl, List.getD_eq_getElem?_getD, List.getElem?_eq_getElem hl]; rfl
 ·rw [List.getElem?_append_right (by omega), List.getElem?_replicate, if_pos (by omega), List.getD_eq_getElem?_getD, List.getElem?_eq_none (by omega)]; rfl
theorem Rp {l : List Nat} (h : l.length < 80) (x : Nat) : (nB l).setIfInBounds l.length (.int .u32 (x : Int)) = nB (l ++ [x]) := by
 have e : List.replicate (80 - l.length) 0 = 0 :: List.replicate (80 - (l ++ [x]).length) 0 := by
  rw [List.length_append, List.length_singleton, show 80 - l.length = (80 - (l.length + 1)) + 1 by omega]; rfl
 unfold nB aF
 rw [e, List.setIfInBounds_toArray]
 simp
theorem Mp {l : List Nat} (h : l.length = 80) : nB l = (aF l).toArray := by unfold nB; rw [h]; simp
theorem Eh : nB [] = (List.replicate 80 (Value.int .u32 0)).toArray := by unfold nB aF; simp
theorem kC (p : Nat -> UInt8) {i n : Nat} (hi : i < n) : (aS p n).toArray[i]? = some (.int .u8 ((p i).toNat : Int)) := by
 unfold aS
 rw [List.getElem?_toArray, List.getElem?_map, List.getElem?_range hi]; rfl
theorem xH {w : World} {g j : Nat} {t : TypeId} {l : List Nat} {x : Nat} {V : Int} (h : aG w g t (nB l)) (hl : l.length = j) (hj : j < 80) (hV : V = ((x : Nat) : Int)) :
  aG (w.drew.setCell ⟨g, j, none⟩ (.int .u32 V)) g t (nB (l ++ [x])) := by
 subst hl
 rw [hV, <- Rp hj x]
 exact h.drew.put _ _
theorem Hw {p : Nat -> UInt8} {j i0 i1 i2 i3 : Nat} {l : List Nat} (h : j < 16) (h0 : i0 = 4 * j) (h1 : i1 = i0 + 1) (h2 : i2 = i0 + 2) (h3 : i3 = i0 + 3) :
  ((((((p i0).toNat <<< 24 ||| (p i1).toNat <<< 16) ||| (p i2).toNat <<< 8) ||| (p i3).toNat : Nat)) : Int) = ((kI p l j : Nat) : Int) := by
 subst h1; subst h2; subst h3; subst h0
 unfold kI
 rw [if_pos h]
 rfl
theorem xI {p : Nat -> UInt8} {j i0 i1 i2 i3 : Nat} {l : List Nat} (h : ¬ j < 16) (h0 : i0 = j - 3) (h1 : i1 = j - 8) (h2 : i2 = j - 14) (h3 : i3 = j - 16) :
  kI p l j = bY (l.getD i0 0 ^^^ l.getD i1 0 ^^^ l.getD i2 0 ^^^ l.getD i3 0) 1 := by
 subst h0; subst h1; subst h2; subst h3
 unfold kI
 rw [if_neg h]
theorem AY {a b c d : Nat} (ha : a < 4294967296) (hb : b < 4294967296) (hc : c < 4294967296) (hd : d < 4294967296) :
  bits .xor .u32 (bits .xor .u32 (bits .xor .u32 (a : Int) (b : Int)) (c : Int)) (d : Int) = ((a ^^^ b ^^^ c ^^^ d : Nat) : Int) := by
 rw [u32_xor_nat a b ha hb, u32_xor_nat _ c (Nat.xor_lt_two_pow (n := 32) ha hb) hc, u32_xor_nat _ d (Nat.xor_lt_two_pow (n := 32) (Nat.xor_lt_two_pow (n := 32) ha hb) hc) hd]
theorem tK (x n : Nat) (w : World) (hx : x < 4294967296) (hn : n = 1 \/ n = 5 \/ n = 30) :
  Calls Tryz.prog 207 #[.int .u32 x, .int .i64 n] w fun e w' => e = .returned (.int .u32 (bY x n)) /\ w' = w := (Wb x n w hx hn).mono fun _ _ h => ⟨h.1, h.2.symm⟩
theorem Mq (p : Nat -> UInt8) (w : World) :
  Calls Tryz.prog 205 #[.agg (aS p 64).toArray] w fun e w' => e = .returned (.agg (aF (bM p 80)).toArray) /\ Below w.heap.size w w' := by
 obtain ⟨PC, hPC⟩ : ∃ PC, PC = (aS p 64).toArray := ⟨_, rfl⟩
 have HPC := Lib.hid hPC
 rw [<- hPC]
 clear hPC
 have hz : ∀ w, (zeroValue 258).run Tryz.prog w = .ok (.agg (nB [])) w := fun w => by rw [Eh]; kernel_rfl
 obtain ⟨Z, hZ⟩ : ∃ Z, Z = nB [] := ⟨_, rfl⟩
 rw [<- hZ] at hz
 have HZ := Lib.hid hZ
 clear hZ
 go_enter Tryz.func205, Tryz.ntmps205
 go_wp2_with fail
 have b1 : aG (((w.alloc (.cells PC 205)).alloc (.cells Z 258)).alloc (.cells Z 258)) w.heap.size 205 PC := ((aG.new w _ PC).alloc _).alloc _
 have b2 : aG (((w.alloc (.cells PC 205)).alloc (.cells Z 258)).alloc (.cells Z 258)) (w.heap.size + 1) 258 Z := by
  have := (aG.new (w.alloc (.cells PC 205)) 258 Z).alloc (.cells Z 258)
  simpa using this
 have b3 : aG (((w.alloc (.cells PC 205)).alloc (.cells Z 258)).alloc (.cells Z 258)) (w.heap.size + 1 + 1) 258 Z := by
  have := aG.new ((w.alloc (.cells PC 205)).alloc (.cells Z 258)) 258 Z
  simpa using this
 have hb : Below w.heap.size w (((w.alloc (.cells PC 205)).alloc (.cells Z 258)).alloc (.cells Z 258)) := (((Below.refl _ _).alloc (Nat.le_refl _) _).alloc (by simp) _).alloc (by simp; omega) _
 clear hz
 go_loopw [5] (fun i wr => ∃ j : Nat, j <= 80 /\ i = .int .i64 j /\ aG wr w.heap.size 205 PC /\ aG wr (w.heap.size + 1) 258 Z /\ aG wr (w.heap.size + 1 + 1) 258 (nB (bM p j)) /\ Below w.heap.size w wr) (fun i _ => 80 - (intOf i).toNat)
 case atStart => exact ⟨0, by omega, rfl, b1, b2, (congrArg (aG _ _ _) HZ.out).mp b3, hb⟩
 case round =>
  clear b1 b2 b3 hb
  obtain ⟨j, hj, rfl, b1, b2, b3, hb⟩ := hrel
  have HB1 := Lib.hid b1
  have HB2 := Lib.hid b2
  have HB3 := Lib.hid b3
  have HB := Lib.hid hb
  clear b1 b2 b3 hb
  by_cases hlt : j < 80
  ·by_cases h16 : j < 16
   ·obtain ⟨i0, hi0⟩ : ∃ i : Nat, i = 4 * j := ⟨_, rfl⟩
    have w0 : IntKind.i64.wrap (4 * (j : Int)) = (i0 : Int) := by rw [hi0, IntWalk.i64_in _ (by omega)]; omega
    obtain ⟨i1, hi1⟩ : ∃ i : Nat, i = i0 + 1 := ⟨_, rfl⟩
    have w1 : IntKind.i64.wrap ((i0 : Int) + 1) = (i1 : Int) := by rw [IntWalk.i64_in _ (by omega)]; omega
    obtain ⟨i2, hi2⟩ : ∃ i : Nat, i = i0 + 2 := ⟨_, rfl⟩
    have w2 : IntKind.i64.wrap ((i0 : Int) + 2) = (i2 : Int) := by rw [IntWalk.i64_in _ (by omega)]; omega
    obtain ⟨i3, hi3⟩ : ∃ i : Nat, i = i0 + 3 := ⟨_, rfl⟩
    have w3 : IntKind.i64.wrap ((i0 : Int) + 3) = (i3 : Int) := by rw [IntWalk.i64_in _ (by omega)]; omega
    have l0 : (i0 : Int) < 64 := by omega
    have l1 : (i1 : Int) < 64 := by omega
    have l2 : (i2 : Int) < 64 := by omega
    have l3 : (i3 : Int) < 64 := by omega
    have c0 : wr.cell? ⟨w.heap.size, i0, none⟩ = some (.int .u8 ((p i0).toNat : Int)) := by rw [HB1.out.cell, HPC.out]; exact kC p (by omega)
    have c1 : wr.cell? ⟨w.heap.size, i1, none⟩ = some (.int .u8 ((p i1).toNat : Int)) := by rw [HB1.out.cell, HPC.out]; exact kC p (by omega)
    have c2 : wr.cell? ⟨w.heap.size, i2, none⟩ = some (.int .u8 ((p i2).toNat : Int)) := by rw [HB1.out.cell, HPC.out]; exact kC p (by omega)
    have c3 : wr.cell? ⟨w.heap.size, i3, none⟩ = some (.int .u8 ((p i3).toNat : Int)) := by rw [HB1.out.cell, HPC.out]; exact kC p (by omega)
    have HI := Lib.hid (And.intro hi0 (And.intro hi1 (And.intro hi2 hi3)))
    clear hi0 hi1 hi2 hi3
    go_wp2_with fail
    have c4 : wr.cell? ⟨w.heap.size + 1 + 1, j, none⟩ = some (.int .u32 (((bM p j).getD j 0 : Nat) : Int)) := by rw [HB3.out.cell]; exact mM (by rw [bZ]; omega) (by omega)
    have f4 := HB3.out.frozen j
    have l4 : (j : Int) < 80 := by omega
    go_still_tail 31, (by kernel_rfl)
    change wpList _ _ _ _ _ wr.drew
    go_wp2_with fail
    go_roundw
    case rel =>
     have H3 := xH HB3.out (bZ p j) hlt ((tH (p i0) (p i1) (p i2) (p i3)).trans (Hw (l := bM p j) h16 HI.out.1 HI.out.2.1 HI.out.2.2.1 HI.out.2.2.2))
     exact ⟨j + 1, by omega, by go_num, HB1.out.drew.far (by simp; omega) _, HB2.out.drew.far (by simp) _, H3, HB.out.drew.setCell (by simp; omega) _⟩
    case measure => simp [intOf]; omega
   ·obtain ⟨i0, hi0⟩ : ∃ i : Nat, i = j - 3 := ⟨_, rfl⟩
    have w0 : IntKind.i64.wrap ((j : Int) - 3) = (i0 : Int) := by rw [IntWalk.i64_in _ (by omega)]; omega
    obtain ⟨i1, hi1⟩ : ∃ i : Nat, i = j - 8 := ⟨_, rfl⟩
    have w1 : IntKind.i64.wrap ((j : Int) - 8) = (i1 : Int) := by rw [IntWalk.i64_in _ (by omega)]; omega
    obtain ⟨i2, hi2⟩ : ∃ i : Nat, i = j - 14 := ⟨_, rfl⟩
    have w2 : IntKind.i64.wrap ((j : Int) - 14) = (i2 : Int) := by rw [IntWalk.i64_in _ (by omega)]; omega
    obtain ⟨i3, hi3⟩ : ∃ i : Nat, i = j - 16 := ⟨_, rfl⟩
    have w3 : IntKind.i64.wrap ((j : Int) - 16) = (i3 : Int) := by rw [IntWalk.i64_in _ (by omega)]; omega
    have l0 : (i0 : Int) < 80 := by omega
    have l1 : (i1 : Int) < 80 := by omega
    have l2 : (i2 : Int) < 80 := by omega
    have l3 : (i3 : Int) < 80 := by omega
    have l4 : (j : Int) < 80 := by omega
    have hlen : (bM p j).length <= 80 := by rw [bZ]; omega
    have HN := Lib.hid (xI (p := p) (l := bM p j) h16 hi0 hi1 hi2 hi3)
    have HE := Lib.hid (iZ p j)
    have HL := Lib.hid (bZ p j)
    have g := fun i => pL (tI p j) (by decide) i
    obtain ⟨l, hl⟩ : ∃ l, l = bM p j := ⟨_, rfl⟩
    rw [<- hl] at HN HE HB3 hlen g HL
    clear hl
    have c0 : wr.cell? ⟨w.heap.size + 1 + 1, i0, none⟩ = some (.int .u32 ((l.getD i0 0 : Nat) : Int)) := by rw [HB3.out.cell]; exact mM hlen (by omega)
    have c1 : wr.cell? ⟨w.heap.size + 1 + 1, i1, none⟩ = some (.int .u32 ((l.getD i1 0 : Nat) : Int)) := by rw [HB3.out.cell]; exact mM hlen (by omega)
    have c2 : wr.cell? ⟨w.heap.size + 1 + 1, i2, none⟩ = some (.int .u32 ((l.getD i2 0 : Nat) : Int)) := by rw [HB3.out.cell]; exact mM hlen (by omega)
    have c3 : wr.cell? ⟨w.heap.size + 1 + 1, i3, none⟩ = some (.int .u32 ((l.getD i3 0 : Nat) : Int)) := by rw [HB3.out.cell]; exact mM hlen (by omega)
    have c4 : wr.cell? ⟨w.heap.size + 1 + 1, j, none⟩ = some (.int .u32 ((l.getD j 0 : Nat) : Int)) := by rw [HB3.out.cell]; exact mM hlen (by omega)
    have f4 := HB3.out.frozen j
    have HX := Lib.hid (AY (g i0) (g i1) (g i2) (g i3))
    have HXL : Hid (_ < 4294967296) := Lib.hid (Nat.xor_lt_two_pow (n := 32) (Nat.xor_lt_two_pow (n := 32) (Nat.xor_lt_two_pow (n := 32) (g i0) (g i1)) (g i2)) (g i3))
    clear hi0 hi1 hi2 hi3 hlen g
    generalize l.getD i0 0 = y0 at *
    generalize l.getD i1 0 = y1 at *
    generalize l.getD i2 0 = y2 at *
    generalize l.getD i3 0 = y3 at *
    obtain ⟨Y, hY⟩ : ∃ Y, Y = y0 ^^^ y1 ^^^ y2 ^^^ y3 := ⟨_, rfl⟩
    rw [<- hY] at HX HXL HN
    clear hY
    go_wp2_with fail
    go_still_tail 22, (by kernel_rfl)
    rw [HX.out]
    still_call (tK Y 1 wr.drew HXL.out (Or.inl rfl))
    repeat still_step
    refine wpStill_nil ?_
    change wpList _ _ _ _ _ wr.drew
    go_wp2_with fail
    go_roundw
    case rel =>
     have H3 : aG (wr.drew.setCell ⟨w.heap.size + 1 + 1, j, none⟩ (.int .u32 ((bY Y 1 : Nat) : Int))) (w.heap.size + 1 + 1) 258 (nB (bM p (j + 1))) := by
      rw [HE.out, HN.out]
      exact xH HB3.out HL.out hlt rfl
     exact ⟨j + 1, by omega, by go_num, HB1.out.drew.far (by simp; omega) _, HB2.out.drew.far (by simp) _, H3, HB.out.drew.setCell (by simp; omega) _⟩
    case measure => simp [intOf]; omega
  ·obtain rfl : j = 80 := by omega
   have hs : ∀ w, (sizeOf 258).run Tryz.prog w = .ok (aF (bM p 80)).toArray.size w := fun w => by
    rw [show (aF (bM p 80)).toArray.size = 80 by unfold aF; simp [bZ]]
    kernel_rfl
   have ha : ∀ w, (isAgg 258).run Tryz.prog w = .ok true w := fun w => by kernel_rfl
   have hW : aG wr (w.heap.size + 1 + 1) 258 (aF (bM p 80)).toArray := by rw [<- Mp (bZ p 80)]; exact HB3.out
   have hz : Z.size = 80 := by rw [HZ.out]; exact Au (by simp)
   have hc : (aF (bM p 80)).toArray.size = 80 := by unfold aF; simp [bZ]
   have h1 : (aF (bM p 80)).toArray.all (·.oneCell') = true := by unfold aF; simp [Value.oneCell']
   obtain ⟨RC, hRC⟩ : ∃ RC, RC = (aF (bM p 80)).toArray := ⟨_, rfl⟩
   rw [<- hRC] at hs hW hc h1
   have HRC := Lib.hid hRC
   clear hRC
   have HL := Lib.hid (fA (P := Tryz.prog) (off := 0) hW (fun j v h => by rw [Nat.zero_add]; exact h) ha hs)
   have HS := Lib.hid (kL (P := Tryz.prog) (off := 0) HB2.out (by omega) h1 hs)
   have HE : Hid ((Z.toList.take 0 ++ RC.toList ++ Z.toList.drop (0 + RC.size)).toArray = RC) := Lib.hid (by
    rw [List.drop_of_length_le (by rw [Array.length_toList]; omega)]
    simp)
   rw [HE.out] at HS
   have HR := Lib.hid (aT (P := Tryz.prog) (off := 0) (bQ HB2.out RC) (fun j v h => by rw [Nat.zero_add]; exact h) ha hs)
   clear hs ha hW hz hc h1
   go_upto_region 9 with fail
   refine wp_region_lit ?_
   refine cZ rfl rfl rfl HL.out ?_
   refine cL rfl rfl rfl rfl HS.out ?_
   clear HL HS
   go_wp2_with fail
   refine dV rfl rfl HR.out rfl ⟨by rw [HRC.out], ?_⟩
   exact below_setRow HB.out (by omega) _
set_option maxRecDepth 100000
set_option maxHeartbeats 2000000
def aJ (s : St) : Array Value := #[.int .u32 (s.a : Int), .int .u32 (s.b : Int), .int .u32 (s.c : Int), .int .u32 (s.d : Int), .int .u32 (s.e : Int)]
theorem Ro (a b c d e : Nat) (s t u v : Nat) : Value.int .u32 (((St.mk (bB (bB (bB (bB a b) c) d) e) s t u v).a : Nat) : Int) = .int .u32 (((a : Int) + b + c + d + e) % 4294967296) := by
 have : ((bB (bB (bB (bB a b) c) d) e : Nat) : Int) = ((a : Int) + b + c + d + e) % 4294967296 := by unfold bB; omega
 show Value.int .u32 ((bB (bB (bB (bB a b) c) d) e : Nat) : Int) = _
 rw [this]
theorem xG (a b c d e : Nat) (x : St) :
  #[Value.int .u32 (((a : Int) + (x.a : Int)) % 4294967296), .int .u32 (((b : Int) + (x.b : Int)) % 4294967296), .int .u32 (((c : Int) + (x.c : Int)) % 4294967296), .int .u32 (((d : Int) + (x.d : Int)) % 4294967296), .int .u32 (((e : Int) + (x.e : Int)) % 4294967296)] = aJ ((St.mk a b c d e).plus x) := by
 unfold aJ St.plus
 simp only [eD]
def Eg (w0 w : World) (B g : Nat) (H Z W : Array Value) : Prop := aG w B 204 H /\ aG w (B + 1 + 1) 204 Z /\ aG w g 258 W /\ Below B w0 w
theorem Eg.drewN {w0 w : World} {B g : Nat} {H Z W : Array Value} (h : Eg w0 w B g H Z W) (n : Nat) : Eg w0 (w.drewN n) B g H Z W := ⟨h.1.drewN n, h.2.1.drewN n, h.2.2.1.drewN n, ⟨h.2.2.2.os, h.2.2.2.tape, h.2.2.2.output, h.2.2.2.size, h.2.2.2.block⟩⟩
theorem Mo (p : Nat -> UInt8) (s : St) (w : World) (hs : s.ok) :
  Calls Tryz.prog 180 #[.agg (aJ s), .agg (aS p 64).toArray] w fun e w' => e = .returned (.agg (aJ (dS p s))) /\ Below w.heap.size w w' := by
 obtain ⟨PC, hPC⟩ : ∃ PC, PC = (aS p 64).toArray := ⟨_, rfl⟩
 have HPC := Lib.hid hPC
 rw [<- hPC]
 obtain ⟨WC, hWC⟩ : ∃ WC, WC = (aF (bM p 80)).toArray := ⟨_, rfl⟩
 have HW : Hid (∀ w, Calls Tryz.prog 205 #[.agg PC] w fun e w' => e = .returned (.agg WC) /\ Below w.heap.size w w') := Lib.hid (by rw [hPC, hWC]; exact fun w => Mq p w)
 have HWC := Lib.hid hWC
 have hWs : WC.size = 80 := by rw [hWC]; unfold aF; simp [bZ]
 have hPs : PC.size = 64 := by rw [hPC]; unfold aS; simp
 have hW1 : WC.all (·.oneCell') = true := by rw [hWC]; unfold aF; simp [Value.oneCell']
 clear hPC hWC
 have hz : ∀ w, (zeroValue 258).run Tryz.prog w = .ok (.agg (nB [])) w := fun w => by rw [Eh]; kernel_rfl
 obtain ⟨Z, hZ⟩ : ∃ Z, Z = nB [] := ⟨_, rfl⟩
 rw [<- hZ] at hz
 have hZs : Z.size = 80 := by rw [hZ]; exact Au (by simp)
 clear hZ
 have HSW : Hid (∀ w, (sizeOf 258).run Tryz.prog w = .ok WC.size w) := Lib.hid (fun w => by rw [hWs]; kernel_rfl)
 have HSP : Hid (∀ w, (sizeOf 205).run Tryz.prog w = .ok PC.size w) := Lib.hid (fun w => by rw [hPs]; kernel_rfl)
 have HAP : Hid (∀ w, (isAgg 205).run Tryz.prog w = .ok true w) := Lib.hid (fun w => by kernel_rfl)
 have HZW := Lib.hid (hWs.trans hZs.symm)
 have HW1 := Lib.hid hW1
 clear hWs hPs hW1 hZs
 obtain ⟨s0, hs0⟩ : ∃ s0, s0 = s := ⟨_, rfl⟩
 have HS0 := Lib.hid hs0
 clear hs0
 obtain ⟨a, b, c, d, e⟩ := s
 unfold aJ
 go_enter Tryz.func180, Tryz.ntmps180
 go_upto_region 1 with fail
 obtain ⟨W, hW, b1, b2, b3, hb, hWs⟩ := Mk w #[Value.int .u32 (a : Int), .int .u32 (b : Int), .int .u32 (c : Int), .int .u32 (d : Int), .int .u32 (e : Int)] PC #[Value.int .u32 0, .int .u32 0, .int .u32 0, .int .u32 0, .int .u32 0] 204 205 204
 rw [<- hW]
 clear hW
 refine wp_region_lit ?_
 refine cZ rfl rfl rfl (eR b2 HAP.out HSP.out) ?_
 refine jB (f := 205) (args := #[.agg PC]) rfl (by go_simp) ((HW.out W).mono ?_)
 rintro e1 w1 ⟨rfl, hb1⟩
 refine ⟨_, rfl, ?_⟩
 refine aK (v := .pointer (some ⟨w1.heap.size, 0, none⟩)) (w' := w1.alloc (.cells Z 258)) rfl (by go_simp) ?_
 refine cL rfl rfl rfl rfl (cN (aG.new w1 _ Z) HZW.out HW1.out HSW.out) ?_
 obtain ⟨g, hg⟩ : ∃ g, g = w1.heap.size := ⟨_, rfl⟩
 have c1 := (b1.below hb1 (by omega)).alloc (.cells Z 258)
 have c3 := (b3.below hb1 (by omega)).alloc (.cells Z 258)
 have c4 := bQ (aG.new w1 258 Z) WC
 have hs1 := hb1.size
 have d1 := cK c1 (g' := w1.heap.size) (by omega) WC
 have d3 := cK c3 (g' := w1.heap.size) (by omega) WC
 have hb2 : Below w.heap.size w ((w1.alloc (.cells Z 258)).setRow w1.heap.size WC) := below_setRow ((hb.trans (hb1.mono (by omega))).alloc (by omega) _) (by omega) _
 obtain ⟨W2, hW2⟩ : ∃ W2, W2 = (w1.alloc (.cells Z 258)).setRow w1.heap.size WC := ⟨_, rfl⟩
 rw [<- hW2] at d1 d3 c4 hb2
 rw [<- hW2]
 rw [<- hg] at c4
 rw [<- hg]
 have hg3 : w.heap.size + 3 <= g := by omega
 clear hW2 hg hs1 hb1 b1 b2 b3 hb hWs hz
 have HC1 := Lib.hid d1
 have HC3 := Lib.hid d3
 have HC4 := Lib.hid c4
 have HB := Lib.hid hb2
 clear c1 c3 d1 d3 c4 hb2
 clear w1 W
 have r0 : W2.cell? ⟨w.heap.size, 0, none⟩ = some (.int .u32 (a : Int)) := by rw [HC1.out.cell]; rfl
 have r1 : W2.cell? ⟨w.heap.size, 1, none⟩ = some (.int .u32 (b : Int)) := by rw [HC1.out.cell]; rfl
 have r2 : W2.cell? ⟨w.heap.size, 2, none⟩ = some (.int .u32 (c : Int)) := by rw [HC1.out.cell]; rfl
 have r3 : W2.cell? ⟨w.heap.size, 3, none⟩ = some (.int .u32 (d : Int)) := by rw [HC1.out.cell]; rfl
 have r4 : W2.cell? ⟨w.heap.size, 4, none⟩ = some (.int .u32 (e : Int)) := by rw [HC1.out.cell]; rfl
 go_wp2_with fail
 go_quiet (fail)
 go_wp2_with fail
 obtain ⟨L, hL⟩ : ∃ L, L = bM p 80 := ⟨_, rfl⟩
 have HLL : Hid (L.length = 80) := Lib.hid (by rw [hL]; exact bZ p 80)
 have HLT : Hid (∀ i, L.getD i 0 < 4294967296) := Lib.hid (fun i => by rw [hL]; exact pL (tI p 80) (by decide) i)
 have HLW : Hid (WC = (aF L).toArray) := Lib.hid (by rw [hL]; exact HWC.out)
 have HLm : Hid (dS p s0 = s0.plus (gW L 80 s0)) := Lib.hid (by rw [hL]; rfl)
 clear hL
 have HOK : Hid s0.ok := Lib.hid (by rw [HS0.out]; exact hs)
 clear hs r0 r1 r2 r3 r4
 obtain ⟨HCs, hHCs⟩ : ∃ X, X = #[Value.int .u32 (a : Int), .int .u32 (b : Int), .int .u32 (c : Int), .int .u32 (d : Int), .int .u32 (e : Int)] := ⟨_, rfl⟩
 obtain ⟨ZCs, hZCs⟩ : ∃ X, X = #[Value.int .u32 0, .int .u32 0, .int .u32 0, .int .u32 0, .int .u32 0] := ⟨_, rfl⟩
 have HK : Hid (Eg w W2 w.heap.size g HCs ZCs WC) := Lib.hid ⟨by rw [hHCs]; exact HC1.out, by rw [hZCs]; exact HC3.out, HC4.out, HB.out⟩
 have HHC := Lib.hid hHCs
 have HZC := Lib.hid hZCs
 clear hHCs hZCs HC1 HC3 HC4 HB
 go_loopw [6, 7, 8, 9, 10, 27] (fun v6 v7 v8 v9 v10 i wr => ∃ (j : Nat) (x : St), j <= 80 /\ i = .int .i64 j /\ x = gW L j s0 /\ v6 = .int .u32 (x.a : Int) /\ v7 = .int .u32 (x.b : Int) /\ v8 = .int .u32 (x.c : Int) /\ v9 = .int .u32 (x.d : Int) /\ v10 = .int .u32 (x.e : Int) /\ Eg w wr w.heap.size g HCs ZCs WC) (fun _ _ _ _ _ i _ => 80 - (intOf i).toNat)
 case atStart => exact ⟨0, s0, by omega, rfl, rfl, by rw [HS0.out], by rw [HS0.out], by rw [HS0.out], by rw [HS0.out], by rw [HS0.out], HK.out.drewN _⟩
 case round =>
  obtain ⟨j, x, hj, rfl, hx, rfl, rfl, rfl, rfl, rfl, hk3⟩ := hrel
  have HK3 := Lib.hid hk3
  clear hk3
  have HX := Lib.hid hx
  have hok : x.ok := by rw [hx]; exact Al L j HOK.out
  clear hx
  by_cases hlt : j < 80
  ·have HN : Hid (gW L (j + 1) s0 = Ak (L.getD j 0) j x) := Lib.hid (by rw [HX.out]; rfl)
   clear HX
   have hcw : wr.cell? ⟨g, j, none⟩ = some (.int .u32 ((L.getD j 0 : Nat) : Int)) := by rw [HK3.out.2.2.1.cell, HLW.out]; exact iM (by rw [HLL.out]; exact hlt)
   have hlt' : (j : Int) < 80 := by omega
   obtain ⟨y, hy⟩ : ∃ y, y = L.getD j 0 := ⟨_, rfl⟩
   rw [<- hy] at hcw HN
   clear hy
   obtain ⟨xa, xb, xc, xd, xe⟩ := x
   obtain ⟨ha, hb, hc, hd, he⟩ := hok
   simp only at ha hb hc hd he
   simp only
   have HCh := Lib.hid (fun w => Ho j xb xc xd w hb hc hd)
   have HRa := Lib.hid (fun w => tK xa 5 w ha (Or.inr (Or.inl rfl)))
   have HRb := Lib.hid (fun w => tK xb 30 w hb (Or.inr (Or.inr rfl)))
   unfold Ak at HN
   simp only at HN
   obtain ⟨F, hF⟩ : ∃ F, F = jQ j xb xc xd := ⟨_, rfl⟩
   obtain ⟨k, hk⟩ : ∃ k, k = pX j := ⟨_, rfl⟩
   obtain ⟨ra, hra⟩ : ∃ r, r = bY xa 5 := ⟨_, rfl⟩
   obtain ⟨rb, hrb⟩ : ∃ r, r = bY xb 30 := ⟨_, rfl⟩
   rw [<- hF, <- hk] at HCh
   rw [<- hF, <- hk, <- hra, <- hrb] at HN
   rw [<- hra] at HRa
   rw [<- hrb] at HRb
   clear hF hk hra hrb ha hb hc hd he
   go_wp2_with (go_at_call 206; refine (HCh.out _).mono ?_; rintro e1 w1 ⟨rfl, rfl⟩)
   go_quiet (first | (go_at_call 207; refine Calls.quiet_of_same (HRa.out _)))
   go_wp2_with (go_at_call 207; refine (HRb.out _).mono ?_; rintro e1 w1 ⟨rfl, rfl⟩)
   go_roundw
   case rel =>
    exact ⟨j + 1, gW L (j + 1) s0, by omega, by go_num, rfl, by rw [HN.out, Ro], by rw [HN.out], by rw [HN.out], by rw [HN.out], by rw [HN.out], HK3.out.drewN _⟩
   case measure => simp [intOf]; omega
  ·obtain rfl : j = 80 := by omega
   have r0 : wr.cell? ⟨w.heap.size, 0, none⟩ = some (.int .u32 (a : Int)) := by rw [HK3.out.1.cell, HHC.out]; rfl
   have r1 : wr.cell? ⟨w.heap.size, 1, none⟩ = some (.int .u32 (b : Int)) := by rw [HK3.out.1.cell, HHC.out]; rfl
   have r2 : wr.cell? ⟨w.heap.size, 2, none⟩ = some (.int .u32 (c : Int)) := by rw [HK3.out.1.cell, HHC.out]; rfl
   have r3 : wr.cell? ⟨w.heap.size, 3, none⟩ = some (.int .u32 (d : Int)) := by rw [HK3.out.1.cell, HHC.out]; rfl
   have r4 : wr.cell? ⟨w.heap.size, 4, none⟩ = some (.int .u32 (e : Int)) := by rw [HK3.out.1.cell, HHC.out]; rfl
   have q0 : wr.cell? ⟨w.heap.size + 1 + 1, 0, none⟩ = some (.int .u32 0) := by rw [HK3.out.2.1.cell, HZC.out]; rfl
   have q1 : wr.cell? ⟨w.heap.size + 1 + 1, 1, none⟩ = some (.int .u32 0) := by rw [HK3.out.2.1.cell, HZC.out]; rfl
   have q2 : wr.cell? ⟨w.heap.size + 1 + 1, 2, none⟩ = some (.int .u32 0) := by rw [HK3.out.2.1.cell, HZC.out]; rfl
   have q3 : wr.cell? ⟨w.heap.size + 1 + 1, 3, none⟩ = some (.int .u32 0) := by rw [HK3.out.2.1.cell, HZC.out]; rfl
   have q4 : wr.cell? ⟨w.heap.size + 1 + 1, 4, none⟩ = some (.int .u32 0) := by rw [HK3.out.2.1.cell, HZC.out]; rfl
   have f0 := HK3.out.2.1.frozen 0
   have f1 := HK3.out.2.1.frozen 1
   have f2 := HK3.out.2.1.frozen 2
   have f3 := HK3.out.2.1.frozen 3
   have f4 := HK3.out.2.1.frozen 4
   go_wp2_with fail
   clear r0 r1 r2 r3 r4 q0 q1 q2 q3 q4 f0 f1 f2 f3 f4
   have hz : aG wr (w.heap.size + 1 + 1) 204 #[Value.int .u32 0, .int .u32 0, .int .u32 0, .int .u32 0, .int .u32 0] := by rw [<- HZC.out]; exact HK3.out.2.1
   have hm : (St.mk a b c d e).plus x = dS p (St.mk a b c d e) := by rw [HX.out, <- HS0.out]; exact HLm.out.symm
   refine dV rfl rfl (aT (((((hz.put 0 _).put 1 _).put 2 _).put 3 _).put 4 _) (fun j v h => by rw [Nat.zero_add]; exact h) (fun w => by kernel_rfl) (fun w => by kernel_rfl)) rfl ⟨?_, ?_⟩
   ·exact congrArg (fun t => Ending.returned (Value.agg t)) ((xG a b c d e x).trans (congrArg aJ hm))
   ·exact (((((HK3.out.2.2.2.setCell (by simp; omega) _).setCell (by simp; omega) _).setCell (by simp; omega) _).setCell (by simp; omega) _).setCell (by simp; omega) _)
end Go.Proofs.YtingkbeifohihaaGreatDoor
