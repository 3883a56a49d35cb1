/-
  masonrybook's lists of numbers that are kept: all are marked. No statement is proved here.
-/
import Derived.Still
import Derived.Tactics
import Derived.KernelRfl
import Derived.Test.YtdibeieiogagoaaGreatDoorBookMark
import Derived.Test.YtdibeieiogagoaaGreatDoorDiskWrite
namespace Go.Proofs.YtdibeieiogagoaaGreatDoor
open Go

section
variable {P : Program} {ops : Array Oper} {J : World → Prop}

/-- From frame a, in every world of J, operation o leaves v: read there, or answered by a call that leads to a world of J; or its guard is off. -/
def LeavesV (P : Program) (ops : Array Oper) (J : World → Prop) (o : Oper) (v : Value) (a : Act) : Prop :=
  (Region.wanted o (yielded ops a.tmps) = true ∧ ∀ w, J w → ((execOp a.eval o).run P w = .ok (.value v) w ∨ ((execOp a.eval o).run P w = .ok .skip w ∧ v = undef) ∨ ∃ f args, (execOp a.eval o).run P w = .ok (.enter f args) w ∧ Calls P f args w (fun e w' => e = .returned v ∧ J w'))) ∨
  (Region.wanted o (yielded ops a.tmps) = false ∧ v = undef)
theorem LeavesV.alike {o : Oper} {v : Value} {a b : Act} (h : LeavesV P ops J o v a) (he : execOp b.eval o = execOp a.eval o) (hw : Region.wanted o (yielded ops b.tmps) = Region.wanted o (yielded ops a.tmps)) : LeavesV P ops J o v b := by
  unfold LeavesV at *
  rw [he, hw]
  exact h
theorem LeavesV.wpOp {o : Oper} {v : Value} {a : Act} {i : Nat} {w : World} {K : Act → World → Prop} {Q : Exit → Act → World → Prop} (hi : ops[i]? = some o) (h : LeavesV P ops J o v a) (hJ : J w) (hK : ∀ w', J w' → K (a.put o.dst v) w') : wpOp P ops Q i K a w := by
  unfold Go.wpOp
  simp only [hi]
  rcases h with ⟨hw, h⟩ | ⟨hw, rfl⟩
  · rw [if_pos hw]
    refine .inl ?_
    unfold Oper.wp
    rcases h w hJ with hr | ⟨hr, rfl⟩ | ⟨f, args, hr, hc⟩
    · rw [hr]; exact hK w hJ
    · rw [hr]; exact hK w hJ
    · rw [hr]
      exact hc.mono fun e w' ⟨he, hj⟩ => by subst he; exact hK w' hj
  · rw [if_neg (by rw [hw]; decide)]
    exact hK w hJ

/-- The walk in the text's order. -/
def wpGrow (P : Program) (ops : Array Oper) (J : World → Prop) (Q : Act → Prop) : List Oper → Act → Prop
  | [], a => Q a
  | o :: rest, a => ∃ v, LeavesV P ops J o v a ∧ wpGrow P ops J Q rest (a.put o.dst v)
/-- .. in any order. -/
def anyGrow (P : Program) (ops : Array Oper) (J : World → Prop) (Q : Act → Prop) : Nat → Array Bool → Act → Prop
  | 0, listed, a => Region.ready .any ops listed = [] ∧ Q a
  | n + 1, listed, a => (Region.ready .any ops listed = [] → Q a) ∧ ∀ i ∈ Region.ready .any ops listed, ∃ o v, ops[i]? = some o ∧ LeavesV P ops J o v a ∧ anyGrow P ops J Q n (listed.setIfInBounds i true) (a.put o.dst v)

theorem wpAny_anyGrow {Q : Act → Prop} {Q' : Exit → Act → World → Prop} (hQ : ∀ a w, J w → Q a → Q' .normal a w) : ∀ (n : Nat) (listed : Array Bool) (a : Act) (w : World), J w → anyGrow P ops J Q n listed a → wpAny P .any ops Q' n listed a w
  | 0, _, _, _, hJ, h => ⟨h.1, hQ _ _ hJ h.2⟩
  | n + 1, _, _, _, hJ, h => ⟨fun h0 => hQ _ _ hJ (h.1 h0), fun i hi => by
      obtain ⟨o, v, ho, hl, hn⟩ := h.2 i hi
      exact hl.wpOp ho hJ fun w' hJ' => wpAny_anyGrow hQ n _ _ _ hJ' hn⟩

theorem anyGrow_first {Q : Act → Prop} {i : Nat} {oi : Oper} {v : Value} (hi : ops[i]? = some oi) (hsel : ∀ (j : Nat) (o : Oper) cs b, ops[j]? = some o → o.op ≠ .select cs b) :
    ∀ (n : Nat) (listed : Array Bool) (a : Act),
      (∀ j oj, ops[j]? = some oj → j ≠ i → listed.getD j true = false → (∀ e ∈ oj.after, Region.binds .any e = true → e.on ≠ i) → oi.apart ops oj = true) →
      i ∈ Region.ready .any ops listed → LeavesV P ops J oi v a → anyGrow P ops J Q n (listed.setIfInBounds i true) (a.put oi.dst v) → anyGrow P ops J Q (n + 1) listed a := by
  intro n
  induction n with
  | zero =>
    intro listed a _ hr hy H
    refine ⟨fun h => (by rw [h] at hr; cases hr), fun j hj => ?_⟩
    by_cases hji : j = i
    · subst hji; exact ⟨oi, v, hi, hy, H⟩
    · have := ready_mono hj hji
      rw [H.1] at this
      cases this
  | succ n ih =>
    intro listed a hfree hr hy H
    refine ⟨fun h => (by rw [h] at hr; cases hr), fun j hj => ?_⟩
    by_cases hji : j = i
    · subst hji; exact ⟨oi, v, hi, hy, H⟩
    · obtain ⟨oj, u, hoj, hyj, hn⟩ := H.2 j (ready_mono hj hji)
      obtain ⟨hjun, oj', hoj', hall⟩ := mem_ready.1 hj
      obtain rfl : oj' = oj := Option.some.inj (hoj'.symm.trans hoj)
      have hnot : ∀ e ∈ oj'.after, Region.binds .any e = true → e.on ≠ i := fun e he hb heq => by
        have h1 := hall e he hb
        have h0 := (mem_ready.1 hr).1
        rw [heq] at h1
        rcases Nat.lt_or_ge i listed.size with h' | h'
        · simp [h'] at h0 h1; rw [h0] at h1; cases h1
        · simp [Array.getElem?_eq_none h'] at h1
      have hap := hfree j oj' hoj hji hjun hnot
      obtain ⟨p1, p2, p3⟩ := Oper.apart_spec hap
      have si := fun cs b => hsel i oi cs b hi
      have sj := fun cs b => hsel j oj' cs b hoj
      refine ⟨oj', u, hoj, hyj.alike (execOp_put oj' sj a oi.dst v p1).symm (wanted_put oj' a oi.dst v p1).symm, ih _ _ ?_ (ready_mono hr (Ne.symm hji)) (hy.alike (execOp_put oi si a oj'.dst u p3) (wanted_put oi a oj'.dst u p3)) ?_⟩
      · intro k ok hk hki hun hno
        refine hfree k ok hk hki ?_ hno
        by_cases hjk : j = k
        · subst hjk; exact hjun
        · rw [getD_set_ne true hjk] at hun; exact hun
      · rw [Array.setIfInBounds_comm _ _ hji, ← Act.put_comm a v u p2]
        exact hn

theorem anyGrow_lex {Q : Act → Prop} (hs : Region.noSelect ops = true) : ∀ (l : List Oper) (k : Nat) (listed : Array Bool) (a : Act), (∀ j, l[j]? = ops[k + j]?) →
    Region.lexFrom .any ops l.length k listed = true → wpGrow P ops J Q l a → anyGrow P ops J Q l.length listed a
  | [], _, _, _, _, hB, h => ⟨by simpa [Region.lexFrom] using hB, h⟩
  | o :: l, k, listed, a, hl, hB, h => by
    have h0 : ops[k]? = some o := by simpa using (hl 0).symm
    simp only [List.length_cons, Region.lexFrom, Bool.and_eq_true] at hB
    obtain ⟨⟨hr, hf⟩, hB'⟩ := hB
    obtain ⟨v, hy, hK⟩ := h
    exact anyGrow_first h0 (Region.noSelect_spec hs) l.length listed a (Region.free_spec h0 hf) (by simpa using hr) hy
      (anyGrow_lex hs l (k + 1) _ _ (fun j => by have := hl (j + 1); simpa [Nat.add_assoc, Nat.add_comm 1 j] using this) hB' hK)

/-- THE BEGINNING: J must hold of the world with one more draw. -/
theorem wp_region_grow {id : Nat} {Q : Exit → Act → World → Prop} {a : Act} {w : World} {l : List Oper} (J : World → Prop) (hm : P.follows .mixedOrders = true) (hB : Region.lexB .any l.toArray = true) (h0 : J w.drew)
    (h : wpGrow P l.toArray J (fun a' => ∀ w', J w' → Q .normal a' w') l a) : (Code.region id l.toArray true).wp P Q a w := by
  simp only [Region.lexB, Bool.and_eq_true] at hB
  have h1 := anyGrow_lex (Q := fun a' => ∀ w', J w' → Q .normal a' w') hB.1 l 0 (Array.replicate l.toArray.size false) a (by simp) (by simpa using hB.2) h
  refine wp_region_any hm (wpAny_anyGrow (Q := fun a' => ∀ w', J w' → Q .normal a' w') (fun a w hJ hq => hq w hJ) _ _ _ _ h0 ?_)
  simpa using h1

variable {Q : Act → Prop} {o : Oper} {rest : List Oper} {a : Act}
/-- An operation whose value is read in every world of J: 'a'' is found by the walk. -/
theorem grow_step {a' : Act} (h : ∀ w, J w → ∀ K : Act → Prop, K a' → if Region.wanted o (yielded ops a.tmps) then o.still P a w K else K (a.put o.dst undef))
    (hd : ∃ s, o.dst = some s ∧ s < a.tmps.size) (hJ : ∃ w, J w) (hn : wpGrow P ops J Q rest a') : wpGrow P ops J Q (o :: rest) a := by
  obtain ⟨s, hs, hlt⟩ := hd
  obtain ⟨w0, hw0⟩ := hJ
  have inj : ∀ u v : Value, a.put o.dst u = a.put o.dst v → u = v := by
    intro u v huv
    rw [hs] at huv
    have := congrArg (fun x : Act => x.tmps[s]?) huv
    simpa [Act.put, hlt] using this
  by_cases hw : Region.wanted o (yielded ops a.tmps) = true
  · have key : ∀ w, J w → ∃ u, ((execOp a.eval o).run P w = .ok (.value u) w ∨ ((execOp a.eval o).run P w = .ok .skip w ∧ u = undef) ∨ ∃ f args, (execOp a.eval o).run P w = .ok (.enter f args) w ∧ Calls P f args w (fun e w' => e = .returned u ∧ J w')) ∧ a' = a.put o.dst u := by
      intro w hj
      have := h w hj (fun b => b = a') rfl
      rw [if_pos hw] at this
      unfold Oper.still at this
      generalize (execOp a.eval o).run P w = r at this
      cases r with
      | ok n w' =>
        cases n <;> simp only [Oper.stillUpon] at this
        case value u => obtain ⟨rfl, h2⟩ := this; exact ⟨u, .inl rfl, h2.symm⟩
        case skip => obtain ⟨rfl, h2⟩ := this; exact ⟨undef, .inr (.inl ⟨rfl, rfl⟩), h2.symm⟩
        case enter f args =>
          obtain ⟨rfl, u, hc, h2⟩ := this
          exact ⟨u, .inr (.inr ⟨f, args, rfl, hc.mono fun e w'' ⟨he, hw'⟩ => ⟨he, by subst hw'; exact hj⟩⟩), h2.symm⟩
      | halt x w' => simp only [Oper.stillUpon] at this
    obtain ⟨v, _, hv⟩ := key w0 hw0
    refine ⟨v, .inl ⟨hw, fun w hj => ?_⟩, by rw [← hv]; exact hn⟩
    obtain ⟨u, hu, hu2⟩ := key w hj
    obtain rfl := inj u v (hu2.symm.trans hv)
    exact hu
  · have hw : Region.wanted o (yielded ops a.tmps) = false := by simpa using hw
    have := h w0 hw0 (fun b => b = a') rfl
    rw [if_neg (by rw [hw]; decide)] at this
    exact ⟨undef, .inr ⟨hw, rfl⟩, by rw [this]; exact hn⟩
theorem grow_call {f : FuncId} {args : Array Value} {v : Value} (hc : ∀ w, J w → Calls P f args w (fun e w' => e = .returned v ∧ J w')) (hw : Region.wanted o (yielded ops a.tmps) = true)
    (hr : ∀ w, J w → (execOp a.eval o).run P w = .ok (.enter f args) w) (hn : wpGrow P ops J Q rest (a.put o.dst v)) : wpGrow P ops J Q (o :: rest) a :=
  ⟨v, .inl ⟨hw, fun w hj => .inr (.inr ⟨f, args, hr w hj, hc w hj⟩)⟩, hn⟩
theorem grow_nil (h : Q a) : wpGrow P ops J Q [] a := h
end
end Go.Proofs.YtdibeieiogagoaaGreatDoor

namespace Go.Proofs.YtdibeieiogagoaaGreatDoor
open Go.RowKit

/-- A list of numbers as a slice. -/
structure LI where
  A : Option Addr
  c : Nat
  xs : List Int
def LI.val (l : LI) : Value := .slice l.A l.xs.length l.c
/-- A row of values that can be read. -/
def RowAt (w : World) (p : Option Addr) (vs : List Value) : Prop := 0 < vs.length → ∃ b off, p = some ⟨b, off, none⟩ ∧ b < w.heap.size ∧ ∀ (j : Nat) (v : Value), vs[j]? = some v → w.cell? ⟨b, off + j, none⟩ = some v
theorem RowAt.below {w w' : World} {p : Option Addr} {vs : List Value} (h : RowAt w p vs) (hb : Below w.heap.size w w') : RowAt w' p vs := fun hp => by
  obtain ⟨b, off, e, hbl, hc⟩ := h hp
  exact ⟨b, off, e, Nat.lt_of_lt_of_le hbl hb.size, fun j v hv => (hb.cell (p := ⟨b, off + j, none⟩) hbl).trans (hc j v hv)⟩
theorem RowAt.get {w : World} {p : Option Addr} {ls : List LI} {j : Nat} {l : LI} (h : RowAt w p (ls.map LI.val)) (hl : ls[j]? = some l) : ∃ b off, p = some ⟨b, off, none⟩ ∧ ∀ w', Below w.heap.size w w' → w'.cell? ⟨b, off + j, none⟩ = some l.val := by
  have hj : j < ls.length := by
    rcases Nat.lt_or_ge j ls.length with h | h
    · exact h
    · rw [List.getElem?_eq_none h] at hl; cases hl
  obtain ⟨b, off, e, hbl, hc⟩ := h (by rw [List.length_map]; omega)
  exact ⟨b, off, e, fun w' hw => (hw.cell (p := ⟨b, off + j, none⟩) hbl).trans (hc j _ (by rw [List.getElem?_map, hl]; rfl))⟩

end Go.Proofs.YtdibeieiogagoaaGreatDoor

namespace Go.Proofs.YtdibeieiogagoaaGreatDoor
open Go.RowKit

section
variable {w : World} {base size n cap : Nat} {e : TypeId} {v : Value} {xs : List Value}
theorem krow_form (h : w.ownsRow base e size v n xs) : ∃ p cap, v = .slice p n cap ∧ n ≤ cap ∧ cap ≤ 9223372036854775807 ∧ (p = none → n = 0) ∧ (∀ a, p = some a → a = ⟨a.block, 0, none⟩) := by
  rcases h.2 with ⟨rfl, rfl⟩ | ⟨g, cap, cur, rfl, _, _, h1, h2, _⟩
  · exact ⟨none, 0, rfl, by omega, by omega, fun _ => rfl, fun _ h => by cases h⟩
  · exact ⟨some ⟨g, 0, none⟩, cap, rfl, h1, by simpa [maxLen] using h2, (fun h => by cases h), fun a h => by cases h; rfl⟩
theorem krow_cell {g : Nat} (h : w.ownsRow base e 1 (.slice (some ⟨g, 0, none⟩) n cap) n xs) {i : Nat} {u : Value} (hi : xs[i]? = some u) : w.cell? ⟨g, i, none⟩ = some u := by
  have := h.cells (g := g) rfl i u hi
  rwa [add_off, Nat.zero_add] at this
theorem krow_frozen {g : Nat} (h : w.ownsRow base e size (.slice (some ⟨g, 0, none⟩) n cap) n xs) (i : Nat) : w.frozen? ⟨g, i, none⟩ = false := by
  rcases h.2 with ⟨h, _⟩ | ⟨g', cap', cur, h, _, hg, _⟩
  · cases h
  · injection h with h1 _ _
    injection h1 with h1
    injection h1 with h1 _ _
    subst h1
    exact Blk.frozen (show Blk w g e cur from hg) i
theorem krow_put {g : Nat} (h : w.ownsRow base e 1 (.slice (some ⟨g, 0, none⟩) n cap) n xs) {i : Nat} (u : Value) : (w.setCell ⟨g, i, none⟩ u).ownsRow base e 1 (.slice (some ⟨g, 0, none⟩) n cap) n (xs.set i u) := by
  refine ⟨by rw [List.length_set]; exact h.1, ?_⟩
  rcases h.2 with ⟨h, _⟩ | ⟨g', cap', cur, h, hb, hg, h1, h2, h3, h4⟩
  · cases h
  · injection h with e1 _ e3
    injection e1 with e1
    injection e1 with e1 _ _
    subst e1 e3
    refine .inr ⟨g, cap, cur.setIfInBounds i u, rfl, hb, Blk.put (show Blk w g e cur from hg) i u, h1, h2, by rw [Array.size_setIfInBounds]; exact h3, ?_⟩
    rw [Array.toList_setIfInBounds, ← h4, List.take_set]
theorem krow_far {p : Addr} (h : w.ownsRow base e size v n xs) (hp : v.ownBlock ≠ some p.block) (u : Value) : (w.setCell p u).ownsRow base e size v n xs :=
  row_kept' h fun k hk => Below.heap_setCell _ _ _ _ (fun e => hp (by rw [hk, e]))
end
/-- Lists of numbers, each in a block of its own. -/
structure RowsI (w : World) (B : Nat) (ls : List LI) : Prop where
  own : ∀ (i : Nat) (l : LI), ls[i]? = some l → w.ownsRow B 3 1 l.val l.xs.length (l.xs.map (Value.int .i64))
  apart : ∀ (i j : Nat) (l l' : LI) (b : Nat), ls[i]? = some l → ls[j]? = some l' → i ≠ j → l.val.ownBlock = some b → l'.val.ownBlock ≠ some b
/-- Nobody's block among those lists'. -/
def FreeOf (ls : List LI) (b : Nat) : Prop := ∀ l ∈ ls, l.val.ownBlock ≠ some b
/-- What may turn: the blocks of those lists. -/
structure KeptBut (ls : List LI) (B : Nat) (w w' : World) : Prop where
  below : Below B w w'
  block : ∀ b, b < w.heap.size → FreeOf ls b → w'.heap[b]? = w.heap[b]?
theorem KeptBut.refl (ls : List LI) (B : Nat) (w : World) : KeptBut ls B w w := ⟨Below.refl _ _, fun _ _ _ => rfl⟩
theorem KeptBut.more {ls : List LI} {B : Nat} {w w' w'' : World} (h : KeptBut ls B w w') (hB : B ≤ w'.heap.size) (hb : Below w'.heap.size w' w'') : KeptBut ls B w w'' :=
  ⟨h.below.trans (hb.mono hB), fun b h1 h2 => (hb.block b (Nat.lt_of_lt_of_le h1 h.below.size)).trans (h.block b h1 h2)⟩
theorem KeptBut.cell {ls : List LI} {B : Nat} {w w' : World} (h : KeptBut ls B w w') {p : Addr} (hp : p.block < w.heap.size) (hf : FreeOf ls p.block) : w'.cell? p = w.cell? p := World.cell?_of_block (h.block _ hp hf)
theorem KeptBut.put {ls : List LI} {B : Nat} {w w' : World} (h : KeptBut ls B w w') {g i : Nat} (u : Value) (hB : B ≤ g) (hg : ∃ l ∈ ls, l.val.ownBlock = some g) : KeptBut ls B w (w'.setCell ⟨g, i, none⟩ u) :=
  ⟨h.below.setCell hB _, fun b h1 h2 => (Below.heap_setCell _ _ _ _ (fun e => by
    obtain ⟨l, hl, hl2⟩ := hg
    have e : b = g := e
    exact h2 l hl (by rw [hl2, e]))).trans (h.block b h1 h2)⟩
theorem RowsI.below {w w' : World} {B : Nat} {ls : List LI} (h : RowsI w B ls) (hb : Below w.heap.size w w') : RowsI w' B ls :=
  ⟨fun i l hl => row_kept' (h.own i l hl) fun k hk => hb.block k ((h.own i l hl).lt k hk).2, h.apart⟩
/-- As far as the marks are put. -/
structure PutTo (ls zs : List LI) (i j : Nat) : Prop where
  len : zs.length = ls.length
  like : ∀ (a : Nat) (z l : LI), zs[a]? = some z → ls[a]? = some l → z.A = l.A ∧ z.c = l.c ∧ z.xs.length = l.xs.length
  done : ∀ (a : Nat) (z : LI), zs[a]? = some z → a < i → z.xs = marksOf a 0 z.xs.length
  here : ∀ (z : LI), zs[i]? = some z → z.xs.take j = marksOf i 0 j
theorem PutTo.start (ls : List LI) : PutTo ls ls 0 0 := ⟨rfl, fun a z l h1 h2 => by rw [h1] at h2; cases h2; exact ⟨rfl, rfl, rfl⟩, fun a z _ h => by omega, fun z _ => by simp [marksOf]⟩
theorem PutTo.next {ls zs : List LI} {i n : Nat} (h : PutTo ls zs i n) (hn : ∀ z, zs[i]? = some z → z.xs.length = n) : PutTo ls zs (i + 1) 0 :=
  ⟨h.len, h.like, fun a z ha hi => by
    rcases Nat.lt_or_ge a i with h1 | h1
    · exact h.done a z ha h1
    · obtain rfl : a = i := by omega
      have := h.here z ha
      rw [List.take_of_length_le (by rw [hn z ha]; exact Nat.le_refl _)] at this
      rw [hn z ha]
      exact this, fun z _ => by simp [marksOf]⟩
theorem take_set_snoc {α : Type} (l : List α) (j : Nat) (x : α) (h : j < l.length) : (l.set j x).take (j + 1) = l.take j ++ [x] := by
  rw [List.take_succ_eq_append_getElem (by rw [List.length_set]; exact h), List.take_set_of_le (Nat.le_refl _), List.getElem_set_self]
def LI.put (l : LI) (j : Nat) (x : Int) : LI := ⟨l.A, l.c, l.xs.set j x⟩
theorem LI.put_val (l : LI) (j : Nat) (x : Int) : (l.put j x).val = l.val := by unfold LI.put LI.val; simp
theorem PutTo.step {ls zs : List LI} {i j : Nat} {z : LI} (h : PutTo ls zs i j) (hz : zs[i]? = some z) (hj : j < z.xs.length) : PutTo ls (zs.set i (z.put j (markAt i (0 + j)))) i (j + 1) := by
  have hil : i < zs.length := by
    rcases Nat.lt_or_ge i zs.length with h | h
    · exact h
    · rw [List.getElem?_eq_none h] at hz; cases hz
  refine ⟨by rw [List.length_set]; exact h.len, fun a y l hy hl => ?_, fun a y hy ha => ?_, fun y hy => ?_⟩
  · by_cases hai : a = i
    · subst hai
      rw [List.getElem?_set_self hil] at hy
      cases hy
      have := h.like a z l hz hl
      exact ⟨this.1, this.2.1, by unfold LI.put; simp only [List.length_set]; exact this.2.2⟩
    · rw [List.getElem?_set_ne (fun e => hai e.symm)] at hy
      exact h.like a y l hy hl
  · rw [List.getElem?_set_ne (by omega)] at hy
    exact h.done a y hy ha
  · rw [List.getElem?_set_self hil] at hy
    cases hy
    unfold LI.put
    simp only
    rw [take_set_snoc _ _ _ hj, h.here z hz, marksOf_snoc]
theorem RowsI.put {w : World} {B : Nat} {zs : List LI} {i j bi : Nat} {z : LI} {x : Int} (h : RowsI w B zs) (hz : zs[i]? = some z) (hb : z.A = some ⟨bi, 0, none⟩) : RowsI (w.setCell ⟨bi, j, none⟩ (.int .i64 x)) B (zs.set i (z.put j x)) := by
  have hil : i < zs.length := by
    rcases Nat.lt_or_ge i zs.length with h | h
    · exact h
    · rw [List.getElem?_eq_none h] at hz; cases hz
  have hob : z.val.ownBlock = some bi := by unfold LI.val; rw [hb]; rfl
  have get : ∀ (a : Nat) (l : LI), (zs.set i (z.put j x))[a]? = some l → ∃ l0, zs[a]? = some l0 ∧ l.val = l0.val ∧ ((a = i ∧ l = z.put j x) ∨ (a ≠ i ∧ l = l0)) := fun a l hl => by
    by_cases hai : a = i
    · subst hai
      rw [List.getElem?_set_self hil] at hl
      cases hl
      exact ⟨z, hz, LI.put_val _ _ _, .inl ⟨rfl, rfl⟩⟩
    · rw [List.getElem?_set_ne (fun e => hai e.symm)] at hl
      exact ⟨l, hl, rfl, .inr ⟨hai, rfl⟩⟩
  refine ⟨fun a l hl => ?_, fun a a' l l' b h1 h2 hne h3 => ?_⟩
  · obtain ⟨l0, h0, hv, ⟨rfl, rfl⟩ | ⟨hai, rfl⟩⟩ := get a l hl
    · rw [LI.put_val]
      have ho := h.own a z hz
      unfold LI.val at ho ⊢
      rw [hb] at ho ⊢
      have := krow_put ho (i := j) (.int .i64 x)
      unfold LI.put
      simp only [List.length_set, List.map_set]
      exact this
    · exact krow_far (h.own a l h0) (fun e => h.apart a i l z bi h0 hz hai e hob) _
  · obtain ⟨l0, h0, hv, -⟩ := get a l h1
    obtain ⟨l0', h0', hv', -⟩ := get a' l' h2
    rw [hv] at h3
    rw [hv']
    exact h.apart a a' l0 l0' b h0 h0' hne h3

end Go.Proofs.YtdibeieiogagoaaGreatDoor
