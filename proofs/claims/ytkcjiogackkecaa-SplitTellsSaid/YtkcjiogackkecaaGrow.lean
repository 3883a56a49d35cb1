/-
  A region that draws its order, walked once in its text's order though its calls make new memory: each operation of known value in every world that has property J, each call leading from one such world to another. No statement is proved here.
-/
import Derived.Still
import Derived.Tactics
import Derived.KernelRfl
namespace Go.Proofs.Ytkcjiogackkecaa
open Go

section
variable {P : Program} {ops : Array Oper} {J : World → Prop}

/-- From frame a, in every world of J, operation o leaves v: read there, or answered by a call that leads to a world of J; or its guard is off. -/
def LeavesV (P : Program) (ops : Array Oper) (J : World → Prop) (o : Oper) (v : Value) (a : Act) : Prop :=
  (Region.wanted o (yielded ops a.tmps) = true ∧ ∀ w, J w → ((execOp a.eval o).run P w = .ok (.value v) w ∨ ((execOp a.eval o).run P w = .ok .skip w ∧ v = undef) ∨ ∃ f args, (execOp a.eval o).run P w = .ok (.enter f args) w ∧ Calls P f args w (fun e w' => e = .returned v ∧ J w'))) ∨
  (Region.wanted o (yielded ops a.tmps) = false ∧ v = undef)
theorem LeavesV.alike {o : Oper} {v : Value} {a b : Act} (h : LeavesV P ops J o v a) (he : execOp b.eval o = execOp a.eval o) (hw : Region.wanted o (yielded ops b.tmps) = Region.wanted o (yielded ops a.tmps)) : LeavesV P ops J o v b := by
  unfold LeavesV at *
  rw [he, hw]
  exact h
theorem LeavesV.wpOp {o : Oper} {v : Value} {a : Act} {i : Nat} {w : World} {K : Act → World → Prop} {Q : Exit → Act → World → Prop} (hi : ops[i]? = some o) (h : LeavesV P ops J o v a) (hJ : J w) (hK : ∀ w', J w' → K (a.put o.dst v) w') : wpOp P ops Q i K a w := by
  unfold Go.wpOp
  simp only [hi]
  rcases h with ⟨hw, h⟩ | ⟨hw, rfl⟩
  · rw [if_pos hw]
    refine .inl ?_
    unfold Oper.wp
    rcases h w hJ with hr | ⟨hr, rfl⟩ | ⟨f, args, hr, hc⟩
    · rw [hr]; exact hK w hJ
    · rw [hr]; exact hK w hJ
    · rw [hr]
      exact hc.mono fun e w' ⟨he, hj⟩ => by subst he; exact hK w' hj
  · rw [if_neg (by rw [hw]; decide)]
    exact hK w hJ

/-- The walk in the text's order. -/
def wpGrow (P : Program) (ops : Array Oper) (J : World → Prop) (Q : Act → Prop) : List Oper → Act → Prop
  | [], a => Q a
  | o :: rest, a => ∃ v, LeavesV P ops J o v a ∧ wpGrow P ops J Q rest (a.put o.dst v)
/-- .. in any order. -/
def anyGrow (P : Program) (ops : Array Oper) (J : World → Prop) (Q : Act → Prop) : Nat → Array Bool → Act → Prop
  | 0, listed, a => Region.ready .any ops listed = [] ∧ Q a
  | n + 1, listed, a => (Region.ready .any ops listed = [] → Q a) ∧ ∀ i ∈ Region.ready .any ops listed, ∃ o v, ops[i]? = some o ∧ LeavesV P ops J o v a ∧ anyGrow P ops J Q n (listed.setIfInBounds i true) (a.put o.dst v)

theorem wpAny_anyGrow {Q : Act → Prop} {Q' : Exit → Act → World → Prop} (hQ : ∀ a w, J w → Q a → Q' .normal a w) : ∀ (n : Nat) (listed : Array Bool) (a : Act) (w : World), J w → anyGrow P ops J Q n listed a → wpAny P .any ops Q' n listed a w
  | 0, _, _, _, hJ, h => ⟨h.1, hQ _ _ hJ h.2⟩
  | n + 1, _, _, _, hJ, h => ⟨fun h0 => hQ _ _ hJ (h.1 h0), fun i hi => by
      obtain ⟨o, v, ho, hl, hn⟩ := h.2 i hi
      exact hl.wpOp ho hJ fun w' hJ' => wpAny_anyGrow hQ n _ _ _ hJ' hn⟩

theorem anyGrow_first {Q : Act → Prop} {i : Nat} {oi : Oper} {v : Value} (hi : ops[i]? = some oi) (hsel : ∀ (j : Nat) (o : Oper) cs b, ops[j]? = some o → o.op ≠ .select cs b) :
    ∀ (n : Nat) (listed : Array Bool) (a : Act),
      (∀ j oj, ops[j]? = some oj → j ≠ i → listed.getD j true = false → (∀ e ∈ oj.after, Region.binds .any e = true → e.on ≠ i) → oi.apart ops oj = true) →
      i ∈ Region.ready .any ops listed → LeavesV P ops J oi v a → anyGrow P ops J Q n (listed.setIfInBounds i true) (a.put oi.dst v) → anyGrow P ops J Q (n + 1) listed a := by
  intro n
  induction n with
  | zero =>
    intro listed a _ hr hy H
    refine ⟨fun h => (by rw [h] at hr; cases hr), fun j hj => ?_⟩
    by_cases hji : j = i
    · subst hji; exact ⟨oi, v, hi, hy, H⟩
    · have := ready_mono hj hji
      rw [H.1] at this
      cases this
  | succ n ih =>
    intro listed a hfree hr hy H
    refine ⟨fun h => (by rw [h] at hr; cases hr), fun j hj => ?_⟩
    by_cases hji : j = i
    · subst hji; exact ⟨oi, v, hi, hy, H⟩
    · obtain ⟨oj, u, hoj, hyj, hn⟩ := H.2 j (ready_mono hj hji)
      obtain ⟨hjun, oj', hoj', hall⟩ := mem_ready.1 hj
      obtain rfl : oj' = oj := Option.some.inj (hoj'.symm.trans hoj)
      have hnot : ∀ e ∈ oj'.after, Region.binds .any e = true → e.on ≠ i := fun e he hb heq => by
        have h1 := hall e he hb
        have h0 := (mem_ready.1 hr).1
        rw [heq] at h1
        rcases Nat.lt_or_ge i listed.size with h' | h'
        · simp [h'] at h0 h1; rw [h0] at h1; cases h1
        · simp [Array.getElem?_eq_none h'] at h1
      have hap := hfree j oj' hoj hji hjun hnot
      obtain ⟨p1, p2, p3⟩ := Oper.apart_spec hap
      have si := fun cs b => hsel i oi cs b hi
      have sj := fun cs b => hsel j oj' cs b hoj
      refine ⟨oj', u, hoj, hyj.alike (execOp_put oj' sj a oi.dst v p1).symm (wanted_put oj' a oi.dst v p1).symm, ih _ _ ?_ (ready_mono hr (Ne.symm hji)) (hy.alike (execOp_put oi si a oj'.dst u p3) (wanted_put oi a oj'.dst u p3)) ?_⟩
      · intro k ok hk hki hun hno
        refine hfree k ok hk hki ?_ hno
        by_cases hjk : j = k
        · subst hjk; exact hjun
        · rw [getD_set_ne true hjk] at hun; exact hun
      · rw [Array.setIfInBounds_comm _ _ hji, ← Act.put_comm a v u p2]
        exact hn

theorem anyGrow_lex {Q : Act → Prop} (hs : Region.noSelect ops = true) : ∀ (l : List Oper) (k : Nat) (listed : Array Bool) (a : Act), (∀ j, l[j]? = ops[k + j]?) →
    Region.lexFrom .any ops l.length k listed = true → wpGrow P ops J Q l a → anyGrow P ops J Q l.length listed a
  | [], _, _, _, _, hB, h => ⟨by simpa [Region.lexFrom] using hB, h⟩
  | o :: l, k, listed, a, hl, hB, h => by
    have h0 : ops[k]? = some o := by simpa using (hl 0).symm
    simp only [List.length_cons, Region.lexFrom, Bool.and_eq_true] at hB
    obtain ⟨⟨hr, hf⟩, hB'⟩ := hB
    obtain ⟨v, hy, hK⟩ := h
    exact anyGrow_first h0 (Region.noSelect_spec hs) l.length listed a (Region.free_spec h0 hf) (by simpa using hr) hy
      (anyGrow_lex hs l (k + 1) _ _ (fun j => by have := hl (j + 1); simpa [Nat.add_assoc, Nat.add_comm 1 j] using this) hB' hK)

/-- THE BEGINNING: J must hold of the world with one more draw. -/
theorem wp_region_grow {id : Nat} {Q : Exit → Act → World → Prop} {a : Act} {w : World} {l : List Oper} (J : World → Prop) (hm : P.follows .mixedOrders = true) (hB : Region.lexB .any l.toArray = true) (h0 : J w.drew)
    (h : wpGrow P l.toArray J (fun a' => ∀ w', J w' → Q .normal a' w') l a) : (Code.region id l.toArray true).wp P Q a w := by
  simp only [Region.lexB, Bool.and_eq_true] at hB
  have h1 := anyGrow_lex (Q := fun a' => ∀ w', J w' → Q .normal a' w') hB.1 l 0 (Array.replicate l.toArray.size false) a (by simp) (by simpa using hB.2) h
  refine wp_region_any hm (wpAny_anyGrow (Q := fun a' => ∀ w', J w' → Q .normal a' w') (fun a w hJ hq => hq w hJ) _ _ _ _ h0 ?_)
  simpa using h1

variable {Q : Act → Prop} {o : Oper} {rest : List Oper} {a : Act}
/-- An operation whose value is read in every world of J: 'a'' is found by the walk. -/
theorem grow_step {a' : Act} (h : ∀ w, J w → ∀ K : Act → Prop, K a' → if Region.wanted o (yielded ops a.tmps) then o.still P a w K else K (a.put o.dst undef))
    (hd : ∃ s, o.dst = some s ∧ s < a.tmps.size) (hJ : ∃ w, J w) (hn : wpGrow P ops J Q rest a') : wpGrow P ops J Q (o :: rest) a := by
  obtain ⟨s, hs, hlt⟩ := hd
  obtain ⟨w0, hw0⟩ := hJ
  have inj : ∀ u v : Value, a.put o.dst u = a.put o.dst v → u = v := by
    intro u v huv
    rw [hs] at huv
    have := congrArg (fun x : Act => x.tmps[s]?) huv
    simpa [Act.put, hlt] using this
  by_cases hw : Region.wanted o (yielded ops a.tmps) = true
  · have key : ∀ w, J w → ∃ u, ((execOp a.eval o).run P w = .ok (.value u) w ∨ ((execOp a.eval o).run P w = .ok .skip w ∧ u = undef) ∨ ∃ f args, (execOp a.eval o).run P w = .ok (.enter f args) w ∧ Calls P f args w (fun e w' => e = .returned u ∧ J w')) ∧ a' = a.put o.dst u := by
      intro w hj
      have := h w hj (fun b => b = a') rfl
      rw [if_pos hw] at this
      unfold Oper.still at this
      generalize (execOp a.eval o).run P w = r at this
      cases r with
      | ok n w' =>
        cases n <;> simp only [Oper.stillUpon] at this
        case value u => obtain ⟨rfl, h2⟩ := this; exact ⟨u, .inl rfl, h2.symm⟩
        case skip => obtain ⟨rfl, h2⟩ := this; exact ⟨undef, .inr (.inl ⟨rfl, rfl⟩), h2.symm⟩
        case enter f args =>
          obtain ⟨rfl, u, hc, h2⟩ := this
          exact ⟨u, .inr (.inr ⟨f, args, rfl, hc.mono fun e w'' ⟨he, hw'⟩ => ⟨he, by subst hw'; exact hj⟩⟩), h2.symm⟩
      | halt x w' => simp only [Oper.stillUpon] at this
    obtain ⟨v, _, hv⟩ := key w0 hw0
    refine ⟨v, .inl ⟨hw, fun w hj => ?_⟩, by rw [← hv]; exact hn⟩
    obtain ⟨u, hu, hu2⟩ := key w hj
    obtain rfl := inj u v (hu2.symm.trans hv)
    exact hu
  · have hw : Region.wanted o (yielded ops a.tmps) = false := by simpa using hw
    have := h w0 hw0 (fun b => b = a') rfl
    rw [if_neg (by rw [hw]; decide)] at this
    exact ⟨undef, .inr ⟨hw, rfl⟩, by rw [this]; exact hn⟩
theorem grow_call {f : FuncId} {args : Array Value} {v : Value} (hc : ∀ w, J w → Calls P f args w (fun e w' => e = .returned v ∧ J w')) (hw : Region.wanted o (yielded ops a.tmps) = true)
    (hr : ∀ w, J w → (execOp a.eval o).run P w = .ok (.enter f args) w) (hn : wpGrow P ops J Q rest (a.put o.dst v)) : wpGrow P ops J Q (o :: rest) a :=
  ⟨v, .inl ⟨hw, fun w hj => .inr (.inr ⟨f, args, hr w hj, hc w hj⟩)⟩, hn⟩
theorem grow_nil (h : Q a) : wpGrow P ops J Q [] a := h
end
end Go.Proofs.Ytkcjiogackkecaa
