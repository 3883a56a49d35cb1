/-
  The document's own order of prints, and how it reads one (package masonryref1).
-/
import Derived.Still
import Derived.Tactics
import Derived.KernelRfl
import Derived.Test.YtpliknofjgbfjaaGreatDoorKept
import Derived.Test.YtpliknofjgbfjaaGreatDoorMarkSmall
import Derived.Test.YtpliknofjgbfjaaGreatDoorOuts
import Derived.Test.YtpliknofjgbfjaaGreatDoorMarkAlive
import Derived.Test.YtpliknofjgbfjaaGreatDoorBytes
import Derived.Test.YtpliknofjgbfjaaGreatDoorOutPure
import Derived.Deep.AppendLies
import Derived.Lib.Bytes
import Derived.Test.YtpliknofjgbfjaaGreatDoorOneSha
import Derived.Test.YtpliknofjgbfjaaGreatDoorTwoSha
import Derived.Test.YtpliknofjgbfjaaGreatDoorMarkPure
import Derived.Test.YtpliknofjgbfjaaGreatDoorOneHex
import Derived.StillTailTactics
namespace Go.Proofs.YtpliknofjgbfjaaGreatDoor
open Go

section
variable {P : Program} {ops : Array Oper} {J : World → Prop}

/-- From frame a, in every world of J, operation o leaves v: read there, or answered by a call that leads to a world of J; or its guard is off. -/
def LeavesV (P : Program) (ops : Array Oper) (J : World → Prop) (o : Oper) (v : Value) (a : Act) : Prop :=
  (Region.wanted o (yielded ops a.tmps) = true ∧ ∀ w, J w → ((execOp a.eval o).run P w = .ok (.value v) w ∨ ((execOp a.eval o).run P w = .ok .skip w ∧ v = undef) ∨ ∃ f args, (execOp a.eval o).run P w = .ok (.enter f args) w ∧ Calls P f args w (fun e w' => e = .returned v ∧ J w'))) ∨
  (Region.wanted o (yielded ops a.tmps) = false ∧ v = undef)
theorem LeavesV.alike {o : Oper} {v : Value} {a b : Act} (h : LeavesV P ops J o v a) (he : execOp b.eval o = execOp a.eval o) (hw : Region.wanted o (yielded ops b.tmps) = Region.wanted o (yielded ops a.tmps)) : LeavesV P ops J o v b := by
  unfold LeavesV at *
  rw [he, hw]
  exact h
theorem LeavesV.wpOp {o : Oper} {v : Value} {a : Act} {i : Nat} {w : World} {K : Act → World → Prop} {Q : Exit → Act → World → Prop} (hi : ops[i]? = some o) (h : LeavesV P ops J o v a) (hJ : J w) (hK : ∀ w', J w' → K (a.put o.dst v) w') : wpOp P ops Q i K a w := by
  unfold Go.wpOp
  simp only [hi]
  rcases h with ⟨hw, h⟩ | ⟨hw, rfl⟩
  · rw [if_pos hw]
    refine .inl ?_
    unfold Oper.wp
    rcases h w hJ with hr | ⟨hr, rfl⟩ | ⟨f, args, hr, hc⟩
    · rw [hr]; exact hK w hJ
    · rw [hr]; exact hK w hJ
    · rw [hr]
      exact hc.mono fun e w' ⟨he, hj⟩ => by subst he; exact hK w' hj
  · rw [if_neg (by rw [hw]; decide)]
    exact hK w hJ

/-- The walk in the text's order. -/
def wpGrow (P : Program) (ops : Array Oper) (J : World → Prop) (Q : Act → Prop) : List Oper → Act → Prop
  | [], a => Q a
  | o :: rest, a => ∃ v, LeavesV P ops J o v a ∧ wpGrow P ops J Q rest (a.put o.dst v)
/-- .. in any order. -/
def anyGrow (P : Program) (ops : Array Oper) (J : World → Prop) (Q : Act → Prop) : Nat → Array Bool → Act → Prop
  | 0, listed, a => Region.ready .any ops listed = [] ∧ Q a
  | n + 1, listed, a => (Region.ready .any ops listed = [] → Q a) ∧ ∀ i ∈ Region.ready .any ops listed, ∃ o v, ops[i]? = some o ∧ LeavesV P ops J o v a ∧ anyGrow P ops J Q n (listed.setIfInBounds i true) (a.put o.dst v)

theorem wpAny_anyGrow {Q : Act → Prop} {Q' : Exit → Act → World → Prop} (hQ : ∀ a w, J w → Q a → Q' .normal a w) : ∀ (n : Nat) (listed : Array Bool) (a : Act) (w : World), J w → anyGrow P ops J Q n listed a → wpAny P .any ops Q' n listed a w
  | 0, _, _, _, hJ, h => ⟨h.1, hQ _ _ hJ h.2⟩
  | n + 1, _, _, _, hJ, h => ⟨fun h0 => hQ _ _ hJ (h.1 h0), fun i hi => by
      obtain ⟨o, v, ho, hl, hn⟩ := h.2 i hi
      exact hl.wpOp ho hJ fun w' hJ' => wpAny_anyGrow hQ n _ _ _ hJ' hn⟩

theorem anyGrow_first {Q : Act → Prop} {i : Nat} {oi : Oper} {v : Value} (hi : ops[i]? = some oi) (hsel : ∀ (j : Nat) (o : Oper) cs b, ops[j]? = some o → o.op ≠ .select cs b) :
    ∀ (n : Nat) (listed : Array Bool) (a : Act),
      (∀ j oj, ops[j]? = some oj → j ≠ i → listed.getD j true = false → (∀ e ∈ oj.after, Region.binds .any e = true → e.on ≠ i) → oi.apart ops oj = true) →
      i ∈ Region.ready .any ops listed → LeavesV P ops J oi v a → anyGrow P ops J Q n (listed.setIfInBounds i true) (a.put oi.dst v) → anyGrow P ops J Q (n + 1) listed a := by
  intro n
  induction n with
  | zero =>
    intro listed a _ hr hy H
    refine ⟨fun h => (by rw [h] at hr; cases hr), fun j hj => ?_⟩
    by_cases hji : j = i
    · subst hji; exact ⟨oi, v, hi, hy, H⟩
    · have := ready_mono hj hji
      rw [H.1] at this
      cases this
  | succ n ih =>
    intro listed a hfree hr hy H
    refine ⟨fun h => (by rw [h] at hr; cases hr), fun j hj => ?_⟩
    by_cases hji : j = i
    · subst hji; exact ⟨oi, v, hi, hy, H⟩
    · obtain ⟨oj, u, hoj, hyj, hn⟩ := H.2 j (ready_mono hj hji)
      obtain ⟨hjun, oj', hoj', hall⟩ := mem_ready.1 hj
      obtain rfl : oj' = oj := Option.some.inj (hoj'.symm.trans hoj)
      have hnot : ∀ e ∈ oj'.after, Region.binds .any e = true → e.on ≠ i := fun e he hb heq => by
        have h1 := hall e he hb
        have h0 := (mem_ready.1 hr).1
        rw [heq] at h1
        rcases Nat.lt_or_ge i listed.size with h' | h'
        · simp [h'] at h0 h1; rw [h0] at h1; cases h1
        · simp [Array.getElem?_eq_none h'] at h1
      have hap := hfree j oj' hoj hji hjun hnot
      obtain ⟨p1, p2, p3⟩ := Oper.apart_spec hap
      have si := fun cs b => hsel i oi cs b hi
      have sj := fun cs b => hsel j oj' cs b hoj
      refine ⟨oj', u, hoj, hyj.alike (execOp_put oj' sj a oi.dst v p1).symm (wanted_put oj' a oi.dst v p1).symm, ih _ _ ?_ (ready_mono hr (Ne.symm hji)) (hy.alike (execOp_put oi si a oj'.dst u p3) (wanted_put oi a oj'.dst u p3)) ?_⟩
      · intro k ok hk hki hun hno
        refine hfree k ok hk hki ?_ hno
        by_cases hjk : j = k
        · subst hjk; exact hjun
        · rw [getD_set_ne true hjk] at hun; exact hun
      · rw [Array.setIfInBounds_comm _ _ hji, ← Act.put_comm a v u p2]
        exact hn

theorem anyGrow_lex {Q : Act → Prop} (hs : Region.noSelect ops = true) : ∀ (l : List Oper) (k : Nat) (listed : Array Bool) (a : Act), (∀ j, l[j]? = ops[k + j]?) →
    Region.lexFrom .any ops l.length k listed = true → wpGrow P ops J Q l a → anyGrow P ops J Q l.length listed a
  | [], _, _, _, _, hB, h => ⟨by simpa [Region.lexFrom] using hB, h⟩
  | o :: l, k, listed, a, hl, hB, h => by
    have h0 : ops[k]? = some o := by simpa using (hl 0).symm
    simp only [List.length_cons, Region.lexFrom, Bool.and_eq_true] at hB
    obtain ⟨⟨hr, hf⟩, hB'⟩ := hB
    obtain ⟨v, hy, hK⟩ := h
    exact anyGrow_first h0 (Region.noSelect_spec hs) l.length listed a (Region.free_spec h0 hf) (by simpa using hr) hy
      (anyGrow_lex hs l (k + 1) _ _ (fun j => by have := hl (j + 1); simpa [Nat.add_assoc, Nat.add_comm 1 j] using this) hB' hK)

/-- THE BEGINNING: J must hold of the world with one more draw. -/
theorem wp_region_grow {id : Nat} {Q : Exit → Act → World → Prop} {a : Act} {w : World} {l : List Oper} (J : World → Prop) (hm : P.follows .mixedOrders = true) (hB : Region.lexB .any l.toArray = true) (h0 : J w.drew)
    (h : wpGrow P l.toArray J (fun a' => ∀ w', J w' → Q .normal a' w') l a) : (Code.region id l.toArray true).wp P Q a w := by
  simp only [Region.lexB, Bool.and_eq_true] at hB
  have h1 := anyGrow_lex (Q := fun a' => ∀ w', J w' → Q .normal a' w') hB.1 l 0 (Array.replicate l.toArray.size false) a (by simp) (by simpa using hB.2) h
  refine wp_region_any hm (wpAny_anyGrow (Q := fun a' => ∀ w', J w' → Q .normal a' w') (fun a w hJ hq => hq w hJ) _ _ _ _ h0 ?_)
  simpa using h1

variable {Q : Act → Prop} {o : Oper} {rest : List Oper} {a : Act}
/-- An operation whose value is read in every world of J: 'a'' is found by the walk. -/
theorem grow_step {a' : Act} (h : ∀ w, J w → ∀ K : Act → Prop, K a' → if Region.wanted o (yielded ops a.tmps) then o.still P a w K else K (a.put o.dst undef))
    (hd : ∃ s, o.dst = some s ∧ s < a.tmps.size) (hJ : ∃ w, J w) (hn : wpGrow P ops J Q rest a') : wpGrow P ops J Q (o :: rest) a := by
  obtain ⟨s, hs, hlt⟩ := hd
  obtain ⟨w0, hw0⟩ := hJ
  have inj : ∀ u v : Value, a.put o.dst u = a.put o.dst v → u = v := by
    intro u v huv
    rw [hs] at huv
    have := congrArg (fun x : Act => x.tmps[s]?) huv
    simpa [Act.put, hlt] using this
  by_cases hw : Region.wanted o (yielded ops a.tmps) = true
  · have key : ∀ w, J w → ∃ u, ((execOp a.eval o).run P w = .ok (.value u) w ∨ ((execOp a.eval o).run P w = .ok .skip w ∧ u = undef) ∨ ∃ f args, (execOp a.eval o).run P w = .ok (.enter f args) w ∧ Calls P f args w (fun e w' => e = .returned u ∧ J w')) ∧ a' = a.put o.dst u := by
      intro w hj
      have := h w hj (fun b => b = a') rfl
      rw [if_pos hw] at this
      unfold Oper.still at this
      generalize (execOp a.eval o).run P w = r at this
      cases r with
      | ok n w' =>
        cases n <;> simp only [Oper.stillUpon] at this
        case value u => obtain ⟨rfl, h2⟩ := this; exact ⟨u, .inl rfl, h2.symm⟩
        case skip => obtain ⟨rfl, h2⟩ := this; exact ⟨undef, .inr (.inl ⟨rfl, rfl⟩), h2.symm⟩
        case enter f args =>
          obtain ⟨rfl, u, hc, h2⟩ := this
          exact ⟨u, .inr (.inr ⟨f, args, rfl, hc.mono fun e w'' ⟨he, hw'⟩ => ⟨he, by subst hw'; exact hj⟩⟩), h2.symm⟩
      | halt x w' => simp only [Oper.stillUpon] at this
    obtain ⟨v, _, hv⟩ := key w0 hw0
    refine ⟨v, .inl ⟨hw, fun w hj => ?_⟩, by rw [← hv]; exact hn⟩
    obtain ⟨u, hu, hu2⟩ := key w hj
    obtain rfl := inj u v (hu2.symm.trans hv)
    exact hu
  · have hw : Region.wanted o (yielded ops a.tmps) = false := by simpa using hw
    have := h w0 hw0 (fun b => b = a') rfl
    rw [if_neg (by rw [hw]; decide)] at this
    exact ⟨undef, .inr ⟨hw, rfl⟩, by rw [this]; exact hn⟩
theorem grow_call {f : FuncId} {args : Array Value} {v : Value} (hc : ∀ w, J w → Calls P f args w (fun e w' => e = .returned v ∧ J w')) (hw : Region.wanted o (yielded ops a.tmps) = true)
    (hr : ∀ w, J w → (execOp a.eval o).run P w = .ok (.enter f args) w) (hn : wpGrow P ops J Q rest (a.put o.dst v)) : wpGrow P ops J Q (o :: rest) a :=
  ⟨v, .inl ⟨hw, fun w hj => .inr (.inr ⟨f, args, hr w hj, hc w hj⟩)⟩, hn⟩
theorem grow_nil (h : Q a) : wpGrow P ops J Q [] a := h
end
end Go.Proofs.YtpliknofjgbfjaaGreatDoor

namespace Go.Proofs.YtpliknofjgbfjaaGreatDoor
open Go.RowKit

/-- Only blocks of type T were written; what came is new. -/
structure GrownT (T : TypeId) (w w' : World) : Prop where
  block : ∀ (k : Nat) (t : TypeId) (cs : Array Value) (fr : Nat × Nat), w.heap[k]? = some (.cells cs t fr) → t ≠ T → w'.heap[k]? = some (.cells cs t fr)
theorem GrownT.of_none {T : TypeId} {w w' : World} (h : w.grownBy w' none) : GrownT T w w' :=
  ⟨fun k t cs fr hk _ => by
    have hlt : k < w.heap.size := by
      rcases Nat.lt_or_ge k w.heap.size with h1 | h1
      · exact h1
      · rw [Array.getElem?_eq_none h1] at hk; cases hk
    rw [h.block k hlt (by simp)]
    exact hk⟩
theorem GrownT.of_by {T : TypeId} {w w' : World} {g : Nat} {cs : Array Value} (h : w.grownBy w' (some g)) (hb : Blk w g T cs) : GrownT T w w' :=
  ⟨fun k t c fr hk ht => by
    have hlt : k < w.heap.size := by
      rcases Nat.lt_or_ge k w.heap.size with h1 | h1
      · exact h1
      · rw [Array.getElem?_eq_none h1] at hk; cases hk
    rw [h.block k hlt (fun e => ?_)]
    · exact hk
    · have e : k = g := by simpa using e
      subst e
      unfold Blk at hb
      rw [hk] at hb
      injection hb with hb
      injection hb with _ h2 _
      exact ht h2⟩
theorem Blk.grownT {T : TypeId} {w w' : World} {b : Nat} {t : TypeId} {cs : Array Value} (h : Blk w b t cs) (hg : GrownT T w w') (ht : t ≠ T) : Blk w' b t cs := hg.block b t cs (0, 0) h ht

/-- All slots but those that the region writes are as they were. -/
def FrameD (a : Act) (n : Nat) (D : Nat → Option Nat) (x : Act) : Prop := x.defers = a.defers ∧ x.tmps.size = a.tmps.size ∧ ∀ s, (∀ i, i < n → D i ≠ some s) → x.tmps[s]? = a.tmps[s]?
/-- What stands in a slot; of no slot nothing. -/
def slotOf (x : Act) : Option Nat → Value
  | some s => x.tmps[s]?.getD undef
  | none => undef

theorem wp_region_chain {P : Program} {ops : Array Oper} {Q : Exit → Act → World → Prop} {id : Nat} {a : Act} {w : World} (T : TypeId) (k : Nat) (D : Nat → Option Nat) (N : Nat) (ci : Nat → Nat) (F : Nat → Value → World → Prop) (Ch : Nat → Value → World → Prop)
    (hm : P.follows .mixedOrders = true) (he : early .any ops = true) (hk : ops.size = k)
    (hinj : ∀ i j s, i < k → j < k → D i = some s → D j = some s → i = j) (hlt : ∀ i s, i < k → D i = some s → s < a.tmps.size)
    (hci : ∀ n, n < N → ci n < k) (hcinj : ∀ n m, n < N → m < N → ci n = ci m → n = m) (hcw : ∀ n, n + 1 < N → ci n ∈ waitsFor .any ops (ci (n + 1)))
    (hF : ∀ i v w w', F i v w → GrownT T w w' → F i v w') (hC : ∀ n v w w', Ch n v w → w.grownBy w' none → Ch n v w') (h0 : Ch 0 undef w.drew)
    (hloose : ∀ i, i < k → (∀ n, n < N → ci n ≠ i) → ∀ (x : Act) (w' : World), FrameD a k D x → (∀ j ∈ waitsFor .any ops i, F j (slotOf x (D j)) w') → (∃ n v, n ≤ N ∧ Ch n v w') → wpOp P ops Q i (fun x' w'' => ∃ v, x' = x.put (D i) v ∧ (D i = none → v = undef) ∧ w'.grownBy w'' none ∧ F i v w'') x w')
    (hchain : ∀ n, n < N → ∀ (x : Act) (w' : World), FrameD a k D x → (∀ j ∈ waitsFor .any ops (ci n), F j (slotOf x (D j)) w') → Ch n (if n = 0 then undef else slotOf x (D (ci (n - 1)))) w' → wpOp P ops Q (ci n) (fun x' w'' => ∃ v, x' = x.put (D (ci n)) v ∧ (D (ci n) = none → v = undef) ∧ GrownT T w' w'' ∧ Ch (n + 1) v w'' ∧ F (ci n) v w'') x w')
    (hK : ∀ (x : Act) (w' : World), FrameD a k D x → (∀ i, i < k → F i (slotOf x (D i)) w') → (∃ v, Ch N v w') → Q .normal x w') : (Code.region id ops true).wp P Q a w := by
  subst hk
  have key : ∀ (x : Act) (i j : Nat) (v : Value), i < ops.size → j < ops.size → i ≠ j → slotOf (x.put (D i) v) (D j) = slotOf x (D j) := by
    intro x i j v hi hj hij
    cases h1 : D i with
    | none => rfl
    | some s =>
      cases h2 : D j with
      | none => rfl
      | some t => exact put_there x s t v (fun e => hij (hinj i j s hi hj h1 (by rw [h2, e])))
  have here : ∀ (x : Act) (i : Nat) (v : Value), i < ops.size → FrameD a ops.size D x → (D i = none → v = undef) → slotOf (x.put (D i) v) (D i) = v := by
    intro x i v hi hf hn
    cases h1 : D i with
    | none => rw [hn h1]; rfl
    | some s => exact put_here x s v (by rw [hf.2.1]; exact hlt i s hi h1)
  have fput : ∀ (x : Act) (i : Nat) (v : Value), i < ops.size → FrameD a ops.size D x → FrameD a ops.size D (x.put (D i) v) := by
    intro x i v hi ⟨h1, h2, h3⟩
    cases h4 : D i with
    | none => exact ⟨h1, h2, h3⟩
    | some t =>
      refine ⟨h1, by simp [Act.put, h2], fun s hs => ?_⟩
      rw [← h3 s hs]
      simp only [Act.put]
      exact Array.getElem?_setIfInBounds_ne (fun e => hs i hi (by rw [h4, e]))
  refine wp_region_kept (fun L x w => FrameD a ops.size D x ∧ (∀ i, i < ops.size → L i = true → F i (slotOf x (D i)) w) ∧ ∃ n, n ≤ N ∧ (∀ m, m < N → (L (ci m) = true ↔ m < n)) ∧ Ch n (if n = 0 then undef else slotOf x (D (ci (n - 1)))) w) hm he ?_ ?_ ?_
  · exact ⟨⟨rfl, rfl, fun _ _ => rfl⟩, fun _ _ h => (by cases h), 0, Nat.zero_le _, fun m _ => by simp, h0⟩
  · intro L x w' i ⟨hf, hv, n, hn, hL, hch⟩ hi hLi hw
    have hww : ∀ j ∈ waitsFor .any ops i, F j (slotOf x (D j)) w' := fun j hj => by
      have hlt := List.all_eq_true.1 (List.all_eq_true.1 he i (List.mem_range.2 hi)) j hj
      have : j < i := by simpa using hlt
      exact hv j (by omega) (hw j hj)
    by_cases hic : ∃ m, m < N ∧ ci m = i
    · obtain ⟨m, hmN, rfl⟩ := hic
      have hnm : n = m := by
        have h1 : ¬ m < n := fun h => by rw [(hL m hmN).2 h] at hLi; cases hLi
        rcases Nat.lt_or_ge n m with h2 | h2
        · have h3 := hcw (m - 1) (by omega)
          rw [show m - 1 + 1 = m by omega] at h3
          have := (hL (m - 1) (by omega)).1 (hw _ h3)
          omega
        · omega
      subst hnm
      refine wpOp_mono (fun x' w'' h => ?_) (hchain n hmN x w' hf hww hch)
      obtain ⟨v, rfl, hnn, hg, hch', hfv⟩ := h
      refine ⟨fput x _ v hi hf, fun j hj hLj => ?_, n + 1, hmN, fun m hm' => ?_, ?_⟩
      · by_cases hij : ci n = j
        · subst hij
          rw [here x _ v hj hf hnn]
          exact hfv
        · simp only [if_neg hij] at hLj
          rw [key x _ j v hi hj hij]
          exact hF j _ _ _ (hv j hj hLj) hg
      · by_cases hmn : m = n
        · subst hmn; simp
        · have : ci n ≠ ci m := fun e => hmn (hcinj m n hm' hmN e.symm)
          simp only [if_neg this]
          rw [hL m hm']
          omega
      · rw [if_neg (by omega), show n + 1 - 1 = n by omega, here x _ v hi hf hnn]
        exact hch'
    · have hic' : ∀ m, m < N → ci m ≠ i := fun m hm e => hic ⟨m, hm, e⟩
      refine wpOp_mono (fun x' w'' h => ?_) (hloose i hi hic' x w' hf hww ⟨n, _, hn, hch⟩)
      obtain ⟨v, rfl, hnn, hg, hfv⟩ := h
      refine ⟨fput x _ v hi hf, fun j hj hLj => ?_, n, hn, fun m hm' => ?_, ?_⟩
      · by_cases hij : i = j
        · subst hij
          rw [here x _ v hj hf hnn]
          exact hfv
        · simp only [if_neg hij] at hLj
          rw [key x _ j v hi hj hij]
          exact hF j _ _ _ (hv j hj hLj) (GrownT.of_none hg)
      · have : i ≠ ci m := fun e => hic' m hm' e.symm
        simp only [if_neg this]
        exact hL m hm'
      · by_cases hn0 : n = 0
        · rw [if_pos hn0] at hch ⊢
          exact hC _ _ _ _ hch hg
        · rw [if_neg hn0] at hch ⊢
          rw [key x i _ v hi (hci _ (by omega)) (fun e => hic' (n - 1) (by omega) e.symm)]
          exact hC _ _ _ _ hch hg
  · intro L x w' ⟨hf, hv, n, hn, hL, hch⟩ hall
    have hnN : n = N := by
      rcases Nat.lt_or_ge n N with h | h
      · have := (hL n h).1 (hall _ (hci n h)); omega
      · omega
    subst hnN
    exact hK x w' hf (fun i hi => hv i hi (hall i hi)) ⟨_, hch⟩
/-- The two closed facts on the slots, from lists. -/
theorem slots_inj {l : List Nat} (h : l.Nodup) (i j s : Nat) (h1 : l[i]? = some s) (h2 : l[j]? = some s) : i = j := by
  have hi : i < l.length := by
    rcases Nat.lt_or_ge i l.length with h' | h'
    · exact h'
    · rw [List.getElem?_eq_none h'] at h1; cases h1
  exact (List.getElem?_inj hi h).1 (h1.trans h2.symm)
end Go.Proofs.YtpliknofjgbfjaaGreatDoor

namespace Go.Proofs.YtpliknofjgbfjaaGreatDoor
open Go.RowKit

/-- The bytes of a print that may be: its kind, its bytes, zero bytes. -/
def layB (k : Int) (s : ByteArray) : List UInt8 := k.toNat.toUInt8 :: (s.data.toList ++ List.replicate (32 - s.size) 0)
def layV (k : Int) (s : ByteArray) : Value := if validK k s = true then .tuple #[.string ⟨(layB k s).toArray⟩, .int .i64 0] else .tuple #[.string .empty, .int .i64 1]

theorem ints_blk {w : World} {b : Nat} {k : Int} (h : Blk w b 3 #[.int .i64 k]) : Ints w w.heap.size (some ⟨b, 0, none⟩) [k] := by
  intro _
  refine ⟨b, 0, rfl, h.lt, fun j x hx => ?_⟩
  match j, hx with
  | 0, hx =>
    obtain rfl : k = x := by simpa using hx
    exact h.cell 0
theorem txts_blk {w : World} {b : Nat} {s : ByteArray} (h : Blk w b 9 #[.string s]) : Txts w w.heap.size (some ⟨b, 0, none⟩) [s] := by
  intro _
  refine ⟨b, 0, rfl, h.lt, fun j x hx => ?_⟩
  match j, hx with
  | 0, hx =>
    obtain rfl : s = x := by simpa using hx
    exact h.cell 0
theorem OutAt.grownT {w w' : World} {o : Nat} {s : Wr} (h : OutAt w o s) (hg : w.grownBy w' (some o)) : GrownT 49 w w' := by
  obtain ⟨p, r, hb, _⟩ := h
  exact GrownT.of_by hg hb
theorem OutAt.kept {w w' : World} {o : Nat} {s : Wr} (h : OutAt w o s) (hg : w.grownBy w' none) : OutAt w' o s := h.below (below_by hg)

/-- The writer behind each call. -/
def laySt (k : Int) (s : ByteArray) : Nat → Wr
  | 0 | 1 => ⟨[], 0⟩
  | 2 => Wr.nums ⟨[], 0⟩ 1 [k]
  | 3 => (Wr.nums ⟨[], 0⟩ 1 [k]).raws [s]
  | _ => ((Wr.nums ⟨[], 0⟩ 1 [k]).raws [s]).pad 33
theorem laySt_two {k : Int} (s : ByteArray) (h0 : 0 ≤ k) (h1 : k < 256) : laySt k s 2 = ⟨[k.toNat.toUInt8], 0⟩ := by
  show Wr.nums ⟨[], 0⟩ 1 [k] = _
  unfold Wr.nums
  have hf : allFit 1 [k] = true := by
    unfold allFit
    rw [List.all_cons, (fits_iff 1 k).2 ⟨h0, by simpa using h1⟩]
    rfl
  rw [if_pos hf]
  unfold Wr.lay
  simp [allBytes, lowBytes]
theorem laySt_three {k : Int} (s : ByteArray) (h0 : 0 ≤ k) (h1 : k < 256) : laySt k s 3 = ⟨k.toNat.toUInt8 :: s.data.toList, 0⟩ := by
  show Wr.raws (laySt k s 2) [s] = _
  rw [laySt_two s h0 h1]
  unfold Wr.raws Wr.lay
  simp
theorem laySt_four {k : Int} {s : ByteArray} (h0 : 0 ≤ k) (h1 : k < 256) (hs : s.size ≤ 32) : laySt k s 4 = ⟨layB k s, 0⟩ := by
  show Wr.pad (laySt k s 3) 33 = _
  rw [laySt_three s h0 h1]
  have hl : (k.toNat.toUInt8 :: s.data.toList).length = s.size + 1 := by rw [List.length_cons, ← Lib.size_eq]
  unfold Wr.pad
  rw [if_neg (by omega), if_neg (by simp only [hl]; omega)]
  unfold Wr.lay layB
  simp only [hl, if_true, List.cons_append]
  congr 4
  omega

def layD (i : Nat) : Option Nat := [7, 8, 9, 10, 11, 12, 13, 14, 15, 16, 17, 18, 19, 2, 3][i]?
theorem layD_inj (i j s : Nat) (_ : i < 15) (_ : j < 15) (h1 : layD i = some s) (h2 : layD j = some s) : i = j := slots_inj (by decide) i j s h1 h2
theorem layD_lt (i s : Nat) (_ : i < 15) (h : layD i = some s) : s < 20 := (by decide : ∀ x ∈ [7, 8, 9, 10, 11, 12, 13, 14, 15, 16, 17, 18, 19, 2, 3], x < 20) s (List.mem_of_getElem? h)
def layC (n : Nat) : Nat := [0, 4, 8, 9, 10].getD n 0
theorem layC_inj (i j : Nat) (hi : i < 5) (hj : j < 5) (h : layC i = layC j) : i = j := (by decide : ∀ i, i < 5 → ∀ j, j < 5 → layC i = layC j → i = j) i hi j hj h
theorem layC_lt : ∀ i, i < 5 → layC i < 15 := by decide
def layF (B : Nat) (k : Int) (s T : ByteArray) : Nat → Value → World → Prop
  | 1, v, _ => v = .pointer (some ⟨B, 0, none⟩)
  | 2, v, _ => v = .int .i64 k
  | 3, v, w => ∃ b, v = .slice (some ⟨b, 0, none⟩) 1 1 ∧ Blk w b 3 #[.int .i64 k]
  | 5, v, _ => v = .pointer (some ⟨B, 1, none⟩)
  | 6, v, _ => v = .string s
  | 7, v, w => ∃ b, v = .slice (some ⟨b, 0, none⟩) 1 1 ∧ Blk w b 9 #[.string s]
  | 10, v, _ => v = .tuple #[.string T, .int .i64 0]
  | 11, v, _ => v = .string T
  | 12, v, _ => v = .int .i64 0
  | 13, v, _ => v = .string T
  | 14, v, _ => v = .int .i64 0
  | _, _, _ => True
def layCh (W0 : World) (k : Int) (s : ByteArray) : Nat → Value → World → Prop
  | 0, _, w => Below W0.heap.size W0 w
  | 5, _, w => Below W0.heap.size W0 w
  | n, v, w => Below W0.heap.size W0 w ∧ ∃ g, v = .pointer (some ⟨g, 0, none⟩) ∧ W0.heap.size ≤ g ∧ OutAt w g (laySt k s n)
theorem layCh_below {W0 : World} {k : Int} {s : ByteArray} {n : Nat} {v : Value} {w : World} (h : layCh W0 k s n v w) : Below W0.heap.size W0 w := by
  unfold layCh at h
  split at h
  · exact h
  · exact h
  · exact h.1
theorem below_none {B : Nat} {w w' w'' : World} (h : Below B w w') (hg : w'.grownBy w'' none) (hB : B ≤ w'.heap.size) : Below B w w'' := h.trans ((below_by hg).mono hB)
theorem layCh_kept {W0 : World} {k : Int} {s : ByteArray} (n : Nat) (v : Value) (w w' : World) (h : layCh W0 k s n v w) (hg : w.grownBy w' none) : layCh W0 k s n v w' := by
  have hb := layCh_below h
  have hb' := below_none hb hg hb.size
  unfold layCh at h ⊢
  split at h
  · exact hb'
  · exact hb'
  · obtain ⟨_, g, hv, hW, ho⟩ := h
    exact ⟨hb', g, hv, hW, ho.kept hg⟩
theorem layF_kept {B : Nat} {k : Int} {s T : ByteArray} (i : Nat) (v : Value) (w w' : World) (h : layF B k s T i v w) (hg : GrownT 49 w w') : layF B k s T i v w' := by
  unfold layF at h ⊢
  split at h <;> first
    | exact h
    | (obtain ⟨b, hv, hb⟩ := h; exact ⟨b, hv, hb.grownT hg (by decide)⟩)
    | trivial

set_option maxRecDepth 100000 in
set_option maxHeartbeats 4000000 in
theorem lay_valid (k : Int) (s : ByteArray) (w : World) (h0 : 0 ≤ k) (h1 : k < 256) (hs : s.size ≤ 32) (hv : validK k s = true) :
    Calls Tryz.prog 11 #[.agg #[.int .i64 k, .string s]] w fun e w' => e = .returned (.tuple #[.string ⟨(layB k s).toArray⟩, .int .i64 0]) ∧ Below w.heap.size w w' := by
  have HV : Hid (∀ w, Calls Tryz.prog 17 #[.agg #[.int .i64 k, .string s]] w fun e w' => e = .returned (.bool true) ∧ Below w.heap.size w w') := Lib.hid (fun w => by have := valid_any k s w; rwa [hv] at this)
  obtain ⟨T, hT⟩ : ∃ T : ByteArray, T = ⟨(layB k s).toArray⟩ := ⟨_, rfl⟩
  rw [← hT]
  have S2 := Lib.hid (laySt_two s h0 h1)
  have S3 := Lib.hid (laySt_three s h0 h1)
  have S4 := Lib.hid (laySt_four h0 h1 hs)
  have HT := Lib.hid hT
  have HR := Lib.hid (inRange_one (n := k) (by omega) (by omega))
  clear hT hv
  go_enter Tryz.func11, Tryz.ntmps11
  go_wp2_with fail
  refine (HV.out _).mono ?_
  rintro e w1 ⟨rfl, hb1⟩
  have b0 : Blk w1 w.heap.size 24 #[.int .i64 k, .string s] := (Blk.new w _ _).below hb1 (by simp)
  have hb : Below w.heap.size w w1 := ((Below.refl _ _).alloc (Nat.le_refl _) _).trans (hb1.mono (by simp))
  have HBW := Lib.hid hb
  have HC : Hid (∀ w', Below w1.heap.size w1 w' → w'.cell? ⟨w.heap.size, 0, none⟩ = some (.int .i64 k) ∧ w'.cell? ⟨w.heap.size, 1, none⟩ = some (.string s)) := Lib.hid (fun w' hw => ⟨(b0.below hw b0.lt).cell 0, (b0.below hw b0.lt).cell 1⟩)
  clear hb1 b0 hb
  go_upto_region 3 with fail
  refine wp_region_chain 49 15 layD 5 layC (layF w.heap.size k s T) (layCh w1 k s) (by kernel_rfl) (by kernel_rfl) rfl layD_inj layD_lt layC_lt layC_inj ?hcw layF_kept layCh_kept ?h0 ?hloose ?hchain ?hK
  case hcw =>
    intro n hn
    rcases (show n = 0 ∨ n = 1 ∨ n = 2 ∨ n = 3 by omega) with rfl | rfl | rfl | rfl <;> exact of_decide_eq_true (by kernel_rfl)
  case h0 => exact below_drew (Below.refl _ _)
  case hloose =>
    intro i hi hn y w2 hf hw hch
    obtain ⟨nn, vv, _, hcc⟩ := hch
    have hbe := layCh_below hcc
    clear hcc
    rcases (show i = 0 ∨ i = 1 ∨ i = 2 ∨ i = 3 ∨ i = 4 ∨ i = 5 ∨ i = 6 ∨ i = 7 ∨ i = 8 ∨ i = 9 ∨ i = 10 ∨ i = 11 ∨ i = 12 ∨ i = 13 ∨ i = 14 by omega) with rfl | rfl | rfl | rfl | rfl | rfl | rfl | rfl | rfl | rfl | rfl | rfl | rfl | rfl | rfl
    · exact absurd rfl (hn 0 (by omega))
    · have e1 : y.tmps[1]?.getD undef = .pointer (some ⟨w.heap.size, 0, none⟩) := by rw [hf.2.2 1 (by decide)]; rfl
      clear hf hw hn hbe
      refine wpOp_value (v := .pointer (some ⟨w.heap.size, 0, none⟩)) (w' := w2) rfl rfl ?_ ⟨_, rfl, (fun h => by cases h), by_refl _ _, rfl⟩
      go_simp
    · have e1 : y.tmps[8]?.getD undef = .pointer (some ⟨w.heap.size, 0, none⟩) := hw 1 (of_decide_eq_true (by kernel_rfl))
      obtain ⟨c0, c1⟩ := HC.out w2 hbe
      clear hf hw hn hbe
      refine wpOp_value (v := .int .i64 k) (w' := w2) rfl rfl ?_ ⟨_, rfl, (fun h => by cases h), by_refl _ _, rfl⟩
      go_simp
    · have e1 : y.tmps[9]?.getD undef = .int .i64 k := hw 2 (of_decide_eq_true (by kernel_rfl))
      clear hf hw hn hbe
      refine wpOp_value (v := .slice (some ⟨w2.heap.size, 0, none⟩) 1 1) (w' := w2.alloc (.cells #[.int .i64 k] 3)) rfl rfl ?_ ⟨_, rfl, (fun h => by cases h), by_alloc (by_refl _ _) _, ⟨_, rfl, Blk.new _ _ _⟩⟩
      go_simp
    · exact absurd rfl (hn 1 (by omega))
    · have e1 : y.tmps[1]?.getD undef = .pointer (some ⟨w.heap.size, 0, none⟩) := by rw [hf.2.2 1 (by decide)]; rfl
      clear hf hw hn hbe
      refine wpOp_value (v := .pointer (some ⟨w.heap.size, 1, none⟩)) (w' := w2) rfl rfl ?_ ⟨_, rfl, (fun h => by cases h), by_refl _ _, rfl⟩
      go_simp
    · have e1 : y.tmps[12]?.getD undef = .pointer (some ⟨w.heap.size, 1, none⟩) := hw 5 (of_decide_eq_true (by kernel_rfl))
      obtain ⟨c0, c1⟩ := HC.out w2 hbe
      clear hf hw hn hbe
      refine wpOp_value (v := .string s) (w' := w2) rfl rfl ?_ ⟨_, rfl, (fun h => by cases h), by_refl _ _, rfl⟩
      go_simp
    · have e1 : y.tmps[13]?.getD undef = .string s := hw 6 (of_decide_eq_true (by kernel_rfl))
      clear hf hw hn hbe
      refine wpOp_value (v := .slice (some ⟨w2.heap.size, 0, none⟩) 1 1) (w' := w2.alloc (.cells #[.string s] 9)) rfl rfl ?_ ⟨_, rfl, (fun h => by cases h), by_alloc (by_refl _ _) _, ⟨_, rfl, Blk.new _ _ _⟩⟩
      go_simp
    · exact absurd rfl (hn 2 (by omega))
    · exact absurd rfl (hn 3 (by omega))
    · exact absurd rfl (hn 4 (by omega))
    · have e1 : y.tmps[17]?.getD undef = .tuple #[.string T, .int .i64 0] := hw 10 (of_decide_eq_true (by kernel_rfl))
      clear hf hw hn hbe
      refine wpOp_value (v := .string T) (w' := w2) rfl rfl ?_ ⟨_, rfl, (fun h => by cases h), by_refl _ _, rfl⟩
      go_simp
    · have e1 : y.tmps[17]?.getD undef = .tuple #[.string T, .int .i64 0] := hw 10 (of_decide_eq_true (by kernel_rfl))
      clear hf hw hn hbe
      refine wpOp_value (v := .int .i64 0) (w' := w2) rfl rfl ?_ ⟨_, rfl, (fun h => by cases h), by_refl _ _, rfl⟩
      go_simp
    · have e1 : y.tmps[18]?.getD undef = .string T := hw 11 (of_decide_eq_true (by kernel_rfl))
      clear hf hw hn hbe
      refine wpOp_value (v := .string T) (w' := w2) rfl rfl ?_ ⟨_, rfl, (fun h => by cases h), by_refl _ _, rfl⟩
      go_simp
    · have e1 : y.tmps[19]?.getD undef = .int .i64 0 := hw 12 (of_decide_eq_true (by kernel_rfl))
      clear hf hw hn hbe
      refine wpOp_value (v := .int .i64 0) (w' := w2) rfl rfl ?_ ⟨_, rfl, (fun h => by cases h), by_refl _ _, rfl⟩
      go_simp
  case hchain =>
    intro n hn y w2 hf hw hch
    rcases (show n = 0 ∨ n = 1 ∨ n = 2 ∨ n = 3 ∨ n = 4 by omega) with rfl | rfl | rfl | rfl | rfl
    · have hbe : Below w1.heap.size w1 w2 := hch
      clear hf hw hch
      change wpOp _ _ _ 0 _ _ _
      refine wpOp_value (v := .pointer (some ⟨w2.heap.size, 0, none⟩)) (w' := w2.alloc (.cells #[.pointer none, .int .i64 0, .int .i64 0] 49)) rfl rfl ?_ ⟨_, rfl, (fun h => by cases h), GrownT.of_none (by_alloc (by_refl _ _) _), ⟨hbe.alloc hbe.size _, _, rfl, hbe.size, OutAt.new w2⟩, trivial⟩
      go_simp
    · obtain ⟨hbe, g, hg, hgW, ho⟩ := hch
      have e1 : y.tmps[7]?.getD undef = .pointer (some ⟨g, 0, none⟩) := hg
      obtain ⟨b, e2, hbk⟩ : ∃ b, y.tmps[10]?.getD undef = .slice (some ⟨b, 0, none⟩) 1 1 ∧ Blk w2 b 3 #[.int .i64 k] := hw 3 (of_decide_eq_true (by kernel_rfl))
      clear hf hw hg
      change wpOp _ _ _ 4 _ _ _
      refine wpOp_call (f := 31) (args := #[.pointer (some ⟨g, 0, none⟩), .slice (some ⟨b, 0, none⟩) 1 1]) rfl rfl (by go_simp) ((out_byte g _ _ 1 1 [k] w2 rfl (ints_blk hbk) (by simp) HR.out ho (by simp [laySt])).mono ?_)
      rintro e w3 ⟨rfl, h3, hg3⟩
      exact ⟨_, rfl, _, rfl, (fun h => by cases h), ho.grownT hg3, ⟨below_by_new hbe hg3 hgW, g, rfl, hgW, h3⟩, trivial⟩
    · obtain ⟨hbe, g, hg, hgW, ho⟩ := hch
      have e1 : y.tmps[11]?.getD undef = .pointer (some ⟨g, 0, none⟩) := hg
      obtain ⟨b, e2, hbk⟩ : ∃ b, y.tmps[14]?.getD undef = .slice (some ⟨b, 0, none⟩) 1 1 ∧ Blk w2 b 9 #[.string s] := hw 7 (of_decide_eq_true (by kernel_rfl))
      clear hf hw hg
      change wpOp _ _ _ 8 _ _ _
      refine wpOp_call (f := 32) (args := #[.pointer (some ⟨g, 0, none⟩), .slice (some ⟨b, 0, none⟩) 1 1]) rfl rfl (by go_simp) ((out_raw g _ _ 1 1 [s] w2 rfl (txts_blk hbk) (by simp) (by rw [cats_one, ← Lib.size_eq]; omega) ho (by rw [S2.out]; simp)).mono ?_)
      rintro e w3 ⟨rfl, h3, hg3⟩
      exact ⟨_, rfl, _, rfl, (fun h => by cases h), ho.grownT hg3, ⟨below_by_new hbe hg3 hgW, g, rfl, hgW, h3⟩, trivial⟩
    · obtain ⟨hbe, g, hg, hgW, ho⟩ := hch
      have e1 : y.tmps[15]?.getD undef = .pointer (some ⟨g, 0, none⟩) := hg
      clear hf hw hg
      change wpOp _ _ _ 9 _ _ _
      refine wpOp_call (f := 33) (args := #[.pointer (some ⟨g, 0, none⟩), .int .i64 33]) rfl rfl (by go_simp) ((pad_any g _ 33 w2 ho (by rw [S3.out]; simp only [List.length_cons]; rw [← Lib.size_eq]; omega)).mono ?_)
      rintro e w3 ⟨rfl, h3, hg3⟩
      exact ⟨_, rfl, _, rfl, (fun h => by cases h), ho.grownT hg3, ⟨below_by_new hbe hg3 hgW, g, rfl, hgW, h3⟩, trivial⟩
    · obtain ⟨hbe, g, hg, hgW, ho⟩ := hch
      have e1 : y.tmps[16]?.getD undef = .pointer (some ⟨g, 0, none⟩) := hg
      have hlen : (laySt k s 4).l.length ≤ 140737488351232 := by
        rw [S4.out]
        show (layB k s).length ≤ _
        unfold layB
        rw [List.length_cons, List.length_append, List.length_replicate, ← Lib.size_eq]
        omega
      clear hf hw hg
      change wpOp _ _ _ 10 _ _ _
      refine wpOp_call (f := 34) (args := #[.pointer (some ⟨g, 0, none⟩)]) rfl rfl (by go_simp) ((fin_any g _ w2 ho (by rw [S4.out]; exact Wr.ok_zero _) hlen).mono ?_)
      rintro e w3 ⟨rfl, h3, hb3⟩
      refine ⟨_, rfl, _, rfl, (fun h => by cases h), GrownT.of_none (by_below hb3 (Nat.le_refl _)), hbe.trans (hb3.mono hbe.size), ?_⟩
      show Value.tuple #[.string ⟨(laySt k s 4).l.toArray⟩, .int .i64 (laySt k s 4).e] = .tuple #[.string T, .int .i64 0]
      rw [S4.out, HT.out]
  case hK =>
    intro y w2 hf hv hch
    obtain ⟨_, hbe⟩ := hch
    have hbe : Below w1.heap.size w1 w2 := hbe
    have e2 : y.tmps[2]?.getD undef = .string T := hv 13 (by omega)
    have e3 : y.tmps[3]?.getD undef = .int .i64 0 := hv 14 (by omega)
    have hd : y.defers = [] := hf.1
    clear hf hv
    obtain ⟨tt, dd⟩ := y
    obtain rfl : dd = [] := hd
    have f2 : tt.getD 2 undef = .string T := by rw [Array.getD_eq_getD_getElem?]; exact e2
    have f3 : tt.getD 3 undef = .int .i64 0 := by rw [Array.getD_eq_getD_getElem?]; exact e3
    clear e2 e3
    go_wp2_with fail
    go_ret2
    exact ⟨by rw [f2, f3], HBW.out.trans (hbe.mono HBW.out.size)⟩

set_option maxRecDepth 100000 in
set_option maxHeartbeats 1000000 in
theorem lay_any6 (k : Int) (s : ByteArray) (w : World) :
    Calls Tryz.prog 11 #[.agg #[.int .i64 k, .string s]] w fun e w' => e = .returned (layV k s) ∧ Below w.heap.size w w' := by
  cases hv : validK k s with
  | true =>
    have h := hv
    simp only [validK, Bool.and_eq_true, decide_eq_true_eq] at h
    have hr := sizeK_range k
    have hk : 0 ≤ k ∧ k < 256 := by
      by_cases h1 : k = 1
      · omega
      · by_cases h2 : k = 2
        · omega
        · rw [sizeK_other h1 h2] at h; omega
    rw [show layV k s = _ from if_pos hv]
    exact lay_valid k s w hk.1 hk.2 (by omega) hv
  | false =>
    rw [show layV k s = _ from if_neg (by rw [hv]; decide)]
    have HV : Hid (∀ w, Calls Tryz.prog 17 #[.agg #[.int .i64 k, .string s]] w fun e w' => e = .returned (.bool false) ∧ Below w.heap.size w w') := Lib.hid (fun w => by have := valid_any k s w; rwa [hv] at this)
    clear hv
    go_enter Tryz.func11, Tryz.ntmps11
    go_wp2_with fail
    refine (HV.out _).mono ?_
    rintro e w1 ⟨rfl, hb1⟩
    go_wp2_with fail
    go_ret2
    exact ⟨rfl, ((Below.refl _ _).alloc (Nat.le_refl _) _).trans (hb1.mono (by simp))⟩
end Go.Proofs.YtpliknofjgbfjaaGreatDoor

namespace Go.Proofs.YtpliknofjgbfjaaGreatDoor
open Go.RowKit

/-- The kind in the first byte, and the bytes of a print of it. -/
def kindB (b : ByteArray) : Int := ((b.data.toList.getD 0 0).toNat : Int)
def readOk (b : ByteArray) : Bool := decide (b.size = 33) && (decide (0 < sizeK (kindB b)) && (b.data.toList.drop (1 + (sizeK (kindB b)).toNat)).all (· == 0))
def readV (b : ByteArray) : Value :=
  if b.size ≠ 33 then .tuple #[.agg #[.int .i64 0, .string .empty], .int .i64 5]
  else if readOk b = true then .tuple #[.agg #[.int .i64 (kindB b), .string (b.extract 1 (1 + (sizeK (kindB b)).toNat))], .int .i64 0]
  else .tuple #[.agg #[.int .i64 0, .string .empty], .int .i64 6]

theorem extract_list (b : ByteArray) (i j : Nat) : (b.extract i j).data.toList = (b.data.toList.drop i).take (j - i) := by simp
/-- The reader behind the first byte. -/
theorem rd_first {b : ByteArray} (h : b.size = 33) : (Rd.num ⟨b, 0⟩ 1) = (kindB b, ⟨b.extract 1 33, 0⟩) := by
  have hk : Rd.take ⟨b, 0⟩ ((1 : Nat) : Int) = (b.extract 0 1, true, ⟨b.extract 1 33, 0⟩) := by
    unfold Rd.take
    rw [if_neg (by simp), if_neg (by omega), if_neg (by show ¬ (b.size : Int) < _; omega)]
    show (b.extract 0 1, true, (⟨b.extract 1 b.size, 0⟩ : Rd)) = _
    rw [h]
  have hl : low (b.extract 0 1).data.toList = (b.data.toList.getD 0 0).toNat := by
    rw [extract_list]
    obtain ⟨⟨l⟩⟩ := b
    have h' : l.length = 33 := h
    match l, h' with
    | x :: r, _ => simp [low]
  have hx := (b.data.toList.getD 0 0).toNat_lt
  unfold Rd.num
  rw [hk]
  simp only [if_true, hl]
  rw [if_neg (by omega)]
  rfl
theorem rd_sum {b : ByteArray} (h : b.size = 33) (z : Nat) (hz : z ≤ 32) : Rd.raw ⟨b.extract 1 33, 0⟩ (z : Int) = (b.extract 1 (1 + z), ⟨b.extract (1 + z) 33, 0⟩) := by
  have hs : (b.extract 1 33).size = 32 := by simp; omega
  unfold Rd.raw Rd.take
  rw [if_neg (by simp), if_neg (by omega), if_neg (by show ¬ ((b.extract 1 33).size : Int) < _; omega)]
  have e1 : (b.extract 1 33).extract 0 z = b.extract 1 (1 + z) := by
    apply ByteArray.ext
    apply Array.toList_inj.1
    rw [extract_list, extract_list, extract_list, List.drop_zero, List.take_take]
    congr 1
    omega
  have e2 : (b.extract 1 33).extract z (b.extract 1 33).size = b.extract (1 + z) 33 := by
    apply ByteArray.ext
    apply Array.toList_inj.1
    rw [extract_list, extract_list, extract_list, hs, List.drop_take, List.drop_drop, List.take_take]
    congr 1
    omega
  show ((b.extract 1 33).extract 0 z, (⟨(b.extract 1 33).extract z (b.extract 1 33).size, 0⟩ : Rd)) = _
  rw [e1, e2]
theorem rd_rest {b : ByteArray} (h : b.size = 33) (z : Nat) : Rd.rest ⟨b.extract (1 + z) 33, 0⟩ = (b.data.toList.drop (1 + z)).all (· == 0) := by
  show ((0 : Int) == 0 && (b.extract (1 + z) 33).data.toList.all (· == 0)) = _
  rw [extract_list, List.take_of_length_le (by rw [List.length_drop, ← Lib.size_eq]; omega)]
  rfl

set_option maxRecDepth 100000 in
set_option maxHeartbeats 2000000 in
theorem read_short (b : ByteArray) (w : World) (h : b.size ≠ 33) :
    Calls Tryz.prog 13 #[.string b] w fun e w' => e = .returned (.tuple #[.agg #[.int .i64 0, .string .empty], .int .i64 5]) ∧ Below w.heap.size w w' := by
  have hi : ((b.size : Int) == 33) = false := beq_eq_false_iff_ne.2 (by omega)
  have hi2 : ((b.size : Int) != 33) = true := by simp [bne, hi]
  clear h
  go_enter Tryz.func13, Tryz.ntmps13
  go_wp2_with fail
  have b1 : Blk (w.alloc (.cells #[.int .i64 0, .string ⟨#[]⟩] 24)) w.heap.size 24 #[.int .i64 0, .string ⟨#[]⟩] := Blk.new w _ _
  have hl : (loadVar 24 ⟨w.heap.size, 0, none⟩).run Tryz.prog (w.alloc (.cells #[.int .i64 0, .string ⟨#[]⟩] 24)) = .ok (.agg #[.int .i64 0, .string ⟨#[]⟩]) _ :=
    run_var_part (off := 0) b1 (fun j v h => by rw [Nat.zero_add]; exact h) (fun w => by kernel_rfl) (fun w => by kernel_rfl)
  refine ret_cell2 rfl rfl hl rfl rfl ?_
  exact ⟨rfl, (Below.refl _ _).alloc (Nat.le_refl _) _⟩

set_option maxRecDepth 100000 in
set_option maxHeartbeats 4000000 in
theorem read_long (b : ByteArray) (w : World) (h : b.size = 33) :
    Calls Tryz.prog 13 #[.string b] w fun e w' => e = .returned (readV b) ∧ Below w.heap.size w w' := by
  obtain ⟨k, hk⟩ : ∃ k, k = kindB b := ⟨_, rfl⟩
  have hkr := (b.data.toList.getD 0 0).toNat_lt
  have hk0 : 0 ≤ k ∧ k < 256 := by rw [hk]; unfold kindB; omega
  obtain ⟨z, hz⟩ : ∃ z : Nat, z = (sizeK k).toNat := ⟨_, rfl⟩
  have hzr := sizeK_range k
  have hzI : sizeK k = (z : Int) := by omega
  have hz32 : z ≤ 32 := by omega
  obtain ⟨S, hS⟩ : ∃ S, S = b.extract 1 (1 + z) := ⟨_, rfl⟩
  have hSs : S.size = z := by rw [hS]; simp; omega
  obtain ⟨R, hR⟩ : ∃ R, R = (b.data.toList.drop (1 + z)).all (· == 0) := ⟨_, rfl⟩
  obtain ⟨s1, hs1⟩ : ∃ s1 : Rd, s1 = ⟨b.extract 1 33, 0⟩ := ⟨_, rfl⟩
  obtain ⟨s2, hs2⟩ : ∃ s2 : Rd, s2 = ⟨b.extract (1 + z) 33, 0⟩ := ⟨_, rfl⟩
  have z1 : s1.b.size ≤ 33 := by rw [hs1]; simp; omega
  have HB : Hid (∀ (g : Nat) (w1 : World), InAt w1 g ⟨b, 0⟩ → Calls Tryz.prog 36 #[.pointer (some ⟨g, 0, none⟩)] w1 fun e w' => e = .returned (.int .i64 k) ∧ InAt w' g s1 ∧ w1.grownBy w' (some g)) := Lib.hid (fun g w1 hi => by
    have := in_byte g ⟨b, 0⟩ w1 hi (by show b.size ≤ _; omega)
    rw [rd_first h, ← hk, ← hs1] at this
    exact this)
  have HZ : Hid (∀ w1, Calls Tryz.prog 16 #[.int .i64 k] w1 fun e w' => e = .returned (.int .i64 (z : Int)) ∧ w1 = w') := Lib.hid (fun w1 => by rw [← hzI]; exact size_any k w1)
  have HR : Hid (∀ (g : Nat) (w1 : World), InAt w1 g s1 → Calls Tryz.prog 37 #[.pointer (some ⟨g, 0, none⟩), .int .i64 (z : Int)] w1 fun e w' => e = .returned (.string S) ∧ InAt w' g s2 ∧ w1.grownBy w' (some g)) := Lib.hid (fun g w1 hi => by
    have := in_raw g s1 (z : Int) w1 hi (by omega)
    rw [hs1, rd_sum h z hz32, ← hS, ← hs2] at this
    exact this)
  have HE : Hid (∀ (g : Nat) (w1 : World), InAt w1 g s2 → Calls Tryz.prog 38 #[.pointer (some ⟨g, 0, none⟩)] w1 fun e w' => e = .returned (.bool R) ∧ w1 = w') := Lib.hid (fun g w1 hi => by
    have := in_rest g s2 w1 hi
    rw [hs2, rd_rest h z, ← hR] at this
    exact this)
  obtain ⟨V, hV⟩ : ∃ V, V = validK k S := ⟨_, rfl⟩
  have hVz : V = decide (0 < z) := by
    rw [hV]; unfold validK
    rw [hzI, hSs]
    simp
  have HV : Hid (∀ w1, Calls Tryz.prog 17 #[.agg #[.int .i64 k, .string S]] w1 fun e w' => e = .returned (.bool V) ∧ Below w1.heap.size w1 w') := Lib.hid (fun w1 => by rw [hV]; exact valid_any k S w1)
  have hok : readOk b = (V && R) := by
    unfold readOk
    rw [← hk, ← hz, ← hR, hVz, decide_eq_true h, hzI]
    simp
  have HVV : Hid (readV b = if (V && R) = true then .tuple #[.agg #[.int .i64 k, .string S], .int .i64 0] else .tuple #[.agg #[.int .i64 0, .string .empty], .int .i64 6]) := Lib.hid (by
    unfold readV
    rw [if_neg (by omega), hok, ← hk, ← hz, ← hS])
  have HO := Lib.hid (fun w1 => on_any b w1 (by omega))
  have hi : ((b.size : Int) == 33) = true := by simp [h]
  have hi2 : ((b.size : Int) != 33) = false := by simp [bne, hi]
  clear hk hz hzI hS hR hs1 hs2 hV hok hVz hkr hk0 hzr hSs
  go_enter Tryz.func13, Tryz.ntmps13
  go_wp2_with fail
  refine (HO.out _).mono ?_
  rintro e w1 ⟨g, rfl, hg, hin, hb1⟩
  have hr1 : Blk w1 w.heap.size 24 #[.int .i64 0, .string ⟨#[]⟩] := (Blk.new w _ _).below hb1 (by simp)
  have hgw : w.heap.size < g := by simp at hg; omega
  have k1 : Below w.heap.size w w1 := ((Below.refl _ _).alloc (Nat.le_refl _) _).trans (hb1.mono (by simp))
  have HIN := Lib.hid hin
  clear hb1 hg hin hi hi2
  go_wp2_with fail
  refine (HB.out g _ HIN.out).mono ?_
  rintro e w2 ⟨rfl, h2, hg2⟩
  have hr2 := hr1.grown hg2 (by simp; omega)
  have k2 : Below w.heap.size w w2 := below_by_new k1 hg2 (by omega)
  have HIN2 := Lib.hid h2
  clear h2 hr1 hg2
  go_wp2_with fail
  refine (HZ.out _).mono ?_
  rintro e w2 ⟨rfl, rfl⟩
  go_wp2_with fail
  refine (HR.out g _ HIN2.out).mono ?_
  rintro e w3 ⟨rfl, h3, hg3⟩
  have hr3 := hr2.grown hg3 (by simp; omega)
  have k3 : Below w.heap.size w w3 := below_by_new k2 hg3 (by omega)
  have HIN3 := Lib.hid h3
  clear h3 hr2 hg3 k1 k2
  go_wp2_with fail
  refine (HV.out _).mono ?_
  rintro e w4 ⟨rfl, hb4⟩
  have hr4 : Blk w4 w.heap.size 24 #[.int .i64 0, .string ⟨#[]⟩] := (hr3.alloc _).below hb4 (by have := hr3.lt; simp; omega)
  have hp4 : Blk w4 w3.heap.size 24 #[.int .i64 k, .string S] := (Blk.new w3 _ _).below hb4 (by simp)
  have hi4 : InAt w4 g s2 := Blk.below (Blk.alloc HIN3.out _) hb4 (by have := Blk.lt HIN3.out; simp; omega)
  have k4 : Below w.heap.size w w4 := (k3.alloc k3.size _).trans (hb4.mono (by have := k3.size; simp; omega))
  have HIN4 := Lib.hid hi4
  have c0 := hr4.cell 0
  have c1 := hr4.cell 1
  have c2 := hp4.cell 0
  have c3 := hp4.cell 1
  have f0 := hr4.frozen 0
  have f1 := hr4.frozen 1
  simp at c0 c1 c2 c3
  clear hb4 hi4 hr3
  cases V with
  | false =>
    go_wp2_with fail
    have b2 := (hr4.put 0 (.int .i64 0)).put 1 (.string ⟨#[]⟩)
    have hl : (loadVar 24 ⟨w.heap.size, 0, none⟩).run Tryz.prog ((w4.setCell ⟨w.heap.size, 0, none⟩ (.int .i64 0)).setCell ⟨w.heap.size, 1, none⟩ (.string ⟨#[]⟩)) = .ok (.agg #[.int .i64 0, .string ⟨#[]⟩]) _ :=
      run_var_part (off := 0) b2 (fun j v h => by rw [Nat.zero_add]; exact h) (fun w => by kernel_rfl) (fun w => by kernel_rfl)
    refine ret_cell2 rfl rfl hl rfl rfl ?_
    exact ⟨by rw [HVV.out]; rfl, (k4.setCell (Nat.le_refl _) _).setCell (Nat.le_refl _) _⟩
  | true =>
    go_wp2_with fail
    refine (HE.out g _ HIN4.out).mono ?_
    rintro e w4 ⟨rfl, rfl⟩
    cases R with
    | false =>
      go_wp2_with fail
      have b2 := (hr4.put 0 (.int .i64 0)).put 1 (.string ⟨#[]⟩)
      have hl : (loadVar 24 ⟨w.heap.size, 0, none⟩).run Tryz.prog ((w4.setCell ⟨w.heap.size, 0, none⟩ (.int .i64 0)).setCell ⟨w.heap.size, 1, none⟩ (.string ⟨#[]⟩)) = .ok (.agg #[.int .i64 0, .string ⟨#[]⟩]) _ :=
        run_var_part (off := 0) b2 (fun j v h => by rw [Nat.zero_add]; exact h) (fun w => by kernel_rfl) (fun w => by kernel_rfl)
      refine ret_cell2 rfl rfl hl rfl rfl ?_
      exact ⟨by rw [HVV.out]; rfl, (k4.setCell (Nat.le_refl _) _).setCell (Nat.le_refl _) _⟩
    | true =>
      go_wp2_with fail
      have b2 := (hr4.put 0 (.int .i64 k)).put 1 (.string S)
      have hl : (loadVar 24 ⟨w.heap.size, 0, none⟩).run Tryz.prog ((w4.setCell ⟨w.heap.size, 0, none⟩ (.int .i64 k)).setCell ⟨w.heap.size, 1, none⟩ (.string S)) = .ok (.agg #[.int .i64 k, .string S]) _ :=
        run_var_part (off := 0) b2 (fun j v h => by rw [Nat.zero_add]; exact h) (fun w => by kernel_rfl) (fun w => by kernel_rfl)
      refine ret_cell2 rfl rfl hl rfl rfl ?_
      exact ⟨by rw [HVV.out]; rfl, (k4.setCell (Nat.le_refl _) _).setCell (Nat.le_refl _) _⟩

theorem read_any6 (b : ByteArray) (w : World) (_hb : b.size ≤ 140737488351232) :
    Calls Tryz.prog 13 #[.string b] w fun e w' => e = .returned (readV b) ∧ Below w.heap.size w w' := by
  by_cases h : b.size = 33
  · exact read_long b w h
  · rw [show readV b = _ from if_pos h]
    exact read_short b w h

theorem layB_size {k : Int} {s : ByteArray} (hs : s.size ≤ 32) : (ByteArray.mk (layB k s).toArray).size = 33 := by
  show (layB k s).toArray.size = 33
  rw [List.size_toArray]
  unfold layB
  rw [List.length_cons, List.length_append, List.length_replicate, ← Lib.size_eq]
  omega
/-- What was laid is read as it was. -/
theorem read_lay {k : Int} {s : ByteArray} (hv : validK k s = true) : readV ⟨(layB k s).toArray⟩ = .tuple #[.agg #[.int .i64 k, .string s], .int .i64 0] := by
  have h := hv
  simp only [validK, Bool.and_eq_true, decide_eq_true_eq] at h
  have hr := sizeK_range k
  have hk : 0 ≤ k ∧ k < 256 := by
    by_cases h1 : k = 1
    · omega
    · by_cases h2 : k = 2
      · omega
      · rw [sizeK_other h1 h2] at h; omega
  have hsz := layB_size (k := k) (s := s) (by omega)
  have hkb : kindB ⟨(layB k s).toArray⟩ = k := by
    show (((layB k s).getD 0 0).toNat : Int) = k
    show ((k.toNat.toUInt8).toNat : Int) = k
    rw [show (k.toNat.toUInt8).toNat = k.toNat % 256 from rfl]
    omega
  have hz : (sizeK k).toNat = s.size := by omega
  have hlist : (ByteArray.mk (layB k s).toArray).data.toList = layB k s := rfl
  have hdrop : (layB k s).drop (1 + s.size) = List.replicate (32 - s.size) 0 := by
    unfold layB
    rw [show 1 + s.size = s.size + 1 by omega, List.drop_succ_cons, Lib.size_eq, List.drop_left]
  have hok : readOk ⟨(layB k s).toArray⟩ = true := by
    unfold readOk
    rw [hkb, hsz, hz, hlist, hdrop]
    simp
    omega
  have hE : (ByteArray.mk (layB k s).toArray).extract 1 (1 + s.size) = s := by
    apply ByteArray.ext
    apply Array.toList_inj.1
    rw [extract_list, hlist]
    unfold layB
    rw [List.drop_succ_cons, List.drop_zero, show 1 + s.size - 1 = s.data.toList.length by rw [← Lib.size_eq]; omega, List.take_left]
  unfold readV
  rw [if_neg (by rw [hsz]; decide), if_pos hok, hkb, hz, hE]
end Go.Proofs.YtpliknofjgbfjaaGreatDoor

namespace Go.Proofs.YtpliknofjgbfjaaGreatDoor
open Go.RowKit

set_option maxHeartbeats 400000 in
theorem refsize_any (k : Int) (w : World) :
    Calls Tryz.prog 8 #[.int .i64 k] w fun e w' => e = .returned (.int .i64 (sizeK k)) ∧ w = w' := by
  by_cases h1 : k = 1
  · subst h1
    go_enter Tryz.func8, Tryz.ntmps8
    go_wp2
    go_ret
    exact ⟨rfl, rfl⟩
  · by_cases h2 : k = 2
    · subst h2
      go_enter Tryz.func8, Tryz.ntmps8
      go_wp2
      go_ret
      exact ⟨rfl, rfl⟩
    · rw [sizeK_other h1 h2]
      have e1 : (k == 1) = false := beq_eq_false_iff_ne.2 h1
      have e2 : (k == 2) = false := beq_eq_false_iff_ne.2 h2
      clear h1 h2
      go_enter Tryz.func8, Tryz.ntmps8
      go_wp2
      go_ret
      exact ⟨rfl, rfl⟩
theorem kind_of {k : Int} (h : sizeK k ≠ 0) : k = 1 ∨ k = 2 := by
  by_cases h1 : k = 1
  · exact .inl h1
  · by_cases h2 : k = 2
    · exact .inr h2
    · exact absurd (sizeK_other h1 h2) h
theorem printOf_size {k : Int} (h : sizeK k ≠ 0) (xs : List ByteArray) : ((printOf k xs).size : Int) = sizeK k := by
  rcases kind_of h with rfl | rfl
  · show (((oneB (cats xs)).toArray.size : Nat) : Int) = 20
    rw [List.size_toArray, oneB_length]
    rfl
  · show (((twoB (cats xs)).toArray.size : Nat) : Int) = 32
    rw [List.size_toArray, twoB_length]
    rfl
theorem printOf_valid {k : Int} (h : sizeK k ≠ 0) (xs : List ByteArray) : validK k (printOf k xs) = true := by
  have h1 := printOf_size h xs
  have h2 := sizeK_range k
  simp only [validK, Bool.and_eq_true, decide_eq_true_eq]
  exact ⟨by omega, h1⟩
theorem ofV_yes {k : Int} (h : sizeK k ≠ 0) (xs : List ByteArray) : ofV k xs = .tuple #[.agg #[.int .i64 k, .string (printOf k xs)], .int .i64 0] := if_neg h
theorem layV_yes {k : Int} {s : ByteArray} (h : validK k s = true) : layV k s = .tuple #[.string ⟨(layB k s).toArray⟩, .int .i64 0] := if_pos h
end Go.Proofs.YtpliknofjgbfjaaGreatDoor

namespace Go.Proofs.YtpliknofjgbfjaaGreatDoor
open Go.RowKit

theorem low_cell (l : List UInt8) (m : Nat) : Lib.byteCells l ++ [Value.int .u8 ((m : Int) % 256)] = Lib.byteCells (l ++ lowBytes 1 m) := by
  simp [Lib.byteCells, lowBytes, Nat.toUInt8]
theorem lowBytes_more (j m : Nat) : lowBytes j m ++ lowBytes 1 (m / 256 ^ j) = lowBytes (j + 1) m := by
  rw [lowBytes_snoc j m]
  rfl
theorem low_div (j m : Nat) : m / 256 ^ (j + 1) = m / 256 ^ j / 256 := by rw [Nat.pow_succ, Nat.div_div_eq_div_mul]

set_option maxRecDepth 100000 in
set_option maxHeartbeats 2000000 in
theorem ref_lowbytes (m k : Nat) (w : World) (hm : m < 18446744073709551616) (hk0 : 0 < k) (hk : k ≤ 8) :
    Calls Tryz.prog 39 #[.int .u64 m, .int .i64 k] w fun e w' => e = .returned (.string ⟨(lowBytes k m).toArray⟩) ∧ Below w.heap.size w w' := by
  obtain ⟨i0, hi, hz0, hz1, hz2⟩ := info_parts byte_info
  go_enter Tryz.func39, Tryz.ntmps39
  go_wp2_with fail
  go_loopw [0, 5, 6] (fun x v i wr => ∃ j : Nat, j ≤ k ∧ i = .int .i64 j ∧ x = .int .u64 ((m / 256 ^ j : Nat) : Int) ∧ wr.ownsRow w.heap.size 5 1 v j (Lib.byteCells (lowBytes j m)) ∧ Below w.heap.size w wr) (fun _ _ i _ => k - (intOf i).toNat)
  case atStart => exact ⟨0, Nat.zero_le _, rfl, by simp, World.ownsRow_nil _ _ _ _, Below.refl _ _⟩
  case round =>
    obtain ⟨j, hj, rfl, rfl, hown, hbr⟩ := hrel
    by_cases hlt : j < k
    · have HJ := Lib.hid (low_div j m)
      have HL := Lib.hid (lowBytes_more j m)
      have HLL := Lib.hid (show (Lib.byteCells (lowBytes j m)).length = j by rw [Lib.byteCells_length, lowBytes_length])
      obtain ⟨M, hM⟩ : ∃ M, M = m / 256 ^ j := ⟨_, rfl⟩
      have hMl : M < 18446744073709551616 := by rw [hM]; exact Nat.lt_of_le_of_lt (Nat.div_le_self _ _) hm
      rw [← hM]
      have HM := Lib.hid hM
      clear hM hm
      have HOWN := Lib.hid hown
      clear hown
      go_wp2_with (at_builtin; refine wpList_append_lies _ rfl (.tmp 12) (.tmp 15) 63 rfl w.heap.size 5 i0 (.int .u8 0) 1 1 Tryz.underlying63 hi hz0 hz1 hz2 rfl (by omega) _ j _ rfl (HOWN.out.alloc _) ⟨wr.heap.size, 0, none⟩ 1 1 [.int .u8 ((M : Int) % 256)] rfl rfl ?c1 ?c2 (by omega) (by unfold maxLen; omega) (by omega) (by have := hbr.size; simp; omega) _ rfl ?_)
      case c1 =>
        intro a u ha
        match a, ha with
        | 0, ha => simp at ha; subst ha; simp [Addr.add]
      case c2 => intro u hu; simp at hu; subst hu; rfl
      intro g cap w1 hown1 hg1 hor hlt1
      have hb1 : Below w.heap.size w w1 := (hbr.alloc hbr.size _).grown hg1 (by have := hbr.size; simp; omega) (fun k hk => (HOWN.out.lt k hk).1)
      have HB1 := Lib.hid hb1
      rw [low_cell] at hown1
      have HOW := Lib.hid hown1
      clear hown1 hg1 hor hb1 hbr
      go_wp2
      go_roundw
      case rel => exact ⟨j + 1, by omega, by go_num, by rw [HJ.out, ← HM.out]; simp, by have h := HOW.out; rw [HM.out, HL.out] at h; exact h, HB1.out⟩
      case measure => simp [intOf]; omega
    · obtain rfl : j = k := by omega
      obtain ⟨g, cap, rfl, hg0, hlt1⟩ := hown.form hk0
      have hcv := run_convert_bytes_back (P := Tryz.prog) wr 63 9 5 ⟨g, 0, none⟩ cap (lowBytes j m) Tryz.underlying63 Tryz.underlying5 Tryz.underlying9
        (fun i hi => hown.cells (g := g) rfl i _ (by simp [Lib.byteCells, List.getElem?_eq_getElem hi]))
      rw [lowBytes_length] at hcv
      clear hown
      go_wp2
      go_ret
      exact ⟨rfl, hbr⟩
theorem ref_low4 (m : Nat) (w : World) (hm : m < 4294967296) :
    Calls Tryz.prog 39 #[.int .u64 m, .int .i64 4] w fun e w' => e = .returned (.string ⟨(lowBytes 4 m).toArray⟩) ∧ Below w.heap.size w w' :=
  ref_lowbytes m 4 w (by omega) (by omega) (by omega)
end Go.Proofs.YtpliknofjgbfjaaGreatDoor

namespace Go.Proofs.YtpliknofjgbfjaaGreatDoor
open Go.RowKit

set_option maxRecDepth 100000 in
set_option maxHeartbeats 1000000 in
theorem refprint_any (k : Int) (s : ByteArray) (xs : List ByteArray) (w : World) (hs : s.size ≤ 1000000) (hx : s.data.toList = cats xs) :
    Calls Tryz.prog 9 #[.int .i64 k, .string s] w fun e w' => e = .returned (.agg #[.int .i64 k, .string (printOf k xs)]) ∧ Below w.heap.size w w' := by
  by_cases h1 : k = 1
  · subst h1
    obtain ⟨T, hT⟩ : ∃ T : ByteArray, T = printOf 1 xs := ⟨_, rfl⟩
    have HS : Hid (∀ w, Calls Tryz.prog 29 #[.string s] w fun e w' => e = .returned (.string T) ∧ Below w.heap.size w w') := Lib.hid (fun w => by
      have := sha_any s w hs
      rw [hx] at this
      rw [hT]
      exact this)
    rw [← hT]
    clear hT hx
    go_enter Tryz.func9, Tryz.ntmps9
    go_wp2_with fail
    refine (HS.out _).mono ?_
    rintro e w1 ⟨rfl, hb1⟩
    have b1 : Blk w1 w.heap.size 24 #[.int .i64 0, .string ⟨#[]⟩] := (Blk.new w _ _).below hb1 (by simp)
    have hb : Below w.heap.size w w1 := ((Below.refl _ _).alloc (Nat.le_refl _) _).trans (hb1.mono (by simp))
    have c0 := b1.cell 0
    have c1 := b1.cell 1
    have f0 := b1.frozen 0
    have f1 := b1.frozen 1
    simp at c0 c1
    clear hb1
    go_wp2_with fail
    have b2 := (b1.put 0 (.int .i64 1)).put 1 (.string T)
    have hl : (loadVar 24 ⟨w.heap.size, 0, none⟩).run Tryz.prog ((w1.setCell ⟨w.heap.size, 0, none⟩ (.int .i64 1)).setCell ⟨w.heap.size, 1, none⟩ (.string T)) = .ok (.agg #[.int .i64 1, .string T]) _ :=
      run_var_part (off := 0) b2 (fun j v h => by rw [Nat.zero_add]; exact h) (fun w => by kernel_rfl) (fun w => by kernel_rfl)
    refine ret_cell rfl rfl hl rfl ?_
    exact ⟨rfl, (hb.setCell (Nat.le_refl _) _).setCell (Nat.le_refl _) _⟩
  · obtain ⟨T, hT⟩ : ∃ T : ByteArray, T = printOf k xs := ⟨_, rfl⟩
    have HS : Hid (∀ w, Calls Tryz.prog 30 #[.string s] w fun e w' => e = .returned (.string T) ∧ Below w.heap.size w w') := Lib.hid (fun w => by
      have := sha2_any s w hs
      rw [hx] at this
      rw [hT, show printOf k xs = _ from if_neg h1]
      exact this)
    rw [← hT]
    have e1 : (k == 1) = false := beq_eq_false_iff_ne.2 h1
    clear hT hx h1
    go_enter Tryz.func9, Tryz.ntmps9
    go_wp2_with fail
    refine (HS.out _).mono ?_
    rintro e w1 ⟨rfl, hb1⟩
    have b1 : Blk w1 w.heap.size 24 #[.int .i64 0, .string ⟨#[]⟩] := (Blk.new w _ _).below hb1 (by simp)
    have hb : Below w.heap.size w w1 := ((Below.refl _ _).alloc (Nat.le_refl _) _).trans (hb1.mono (by simp))
    have c0 := b1.cell 0
    have c1 := b1.cell 1
    have f0 := b1.frozen 0
    have f1 := b1.frozen 1
    simp at c0 c1
    clear hb1
    go_wp2_with fail
    have b2 := (b1.put 0 (.int .i64 k)).put 1 (.string T)
    have hl : (loadVar 24 ⟨w.heap.size, 0, none⟩).run Tryz.prog ((w1.setCell ⟨w.heap.size, 0, none⟩ (.int .i64 k)).setCell ⟨w.heap.size, 1, none⟩ (.string T)) = .ok (.agg #[.int .i64 k, .string T]) _ :=
      run_var_part (off := 0) b2 (fun j v h => by rw [Nat.zero_add]; exact h) (fun w => by kernel_rfl) (fun w => by kernel_rfl)
    refine ret_cell rfl rfl hl rfl ?_
    exact ⟨rfl, (hb.setCell (Nat.le_refl _) _).setCell (Nat.le_refl _) _⟩

set_option maxRecDepth 100000 in
set_option maxHeartbeats 2000000 in
theorem refvalid_any (k : Int) (s : ByteArray) (w : World) :
    Calls Tryz.prog 12 #[.agg #[.int .i64 k, .string s]] w fun e w' => e = .returned (.bool (validK k s)) ∧ Below w.heap.size w w' := by
  have HZ : Hid (∀ w, Calls Tryz.prog 8 #[.int .i64 k] w fun e w' => e = .returned (.int .i64 (sizeK k)) ∧ Below w.heap.size w w') := Lib.hid (fun w => (refsize_any k w).mono fun e w' h => ⟨h.1, by rw [← h.2]; exact Below.refl _ _⟩)
  have hv : validK k s = (decide (0 < sizeK k) && decide ((s.size : Int) = sizeK k)) := rfl
  obtain ⟨r, hr⟩ : ∃ r, r = validK k s := ⟨_, rfl⟩
  rw [← hr] at hv ⊢
  clear hr
  generalize sizeK k = z at *
  have b0 : Blk (w.alloc (.cells #[.int .i64 k, .string s] 24)) w.heap.size 24 #[.int .i64 k, .string s] := Blk.new w _ _
  have hb : Below w.heap.size w (w.alloc (.cells #[.int .i64 k, .string s] 24)) := (Below.refl _ _).alloc (Nat.le_refl _) _
  go_enter Tryz.func12, Tryz.ntmps12
  go_upto_region 1 with fail
  obtain ⟨W6, hW6⟩ : ∃ W6, W6 = w.alloc (.cells #[.int .i64 k, .string s] 24) := ⟨_, rfl⟩
  rw [← hW6] at b0 hb
  rw [← hW6]
  clear hW6
  have HBW := Lib.hid hb
  have HC : Hid (∀ w', Below W6.heap.size W6 w' → w'.cell? ⟨w.heap.size, 0, none⟩ = some (.int .i64 k) ∧ w'.cell? ⟨w.heap.size, 1, none⟩ = some (.string s)) := Lib.hid (fun w' hw => ⟨(b0.below hw b0.lt).cell 0, (b0.below hw b0.lt).cell 1⟩)
  have h0J : Below W6.heap.size W6 W6.drew := below_drew (Below.refl _ _)
  clear b0 hb
  by_cases h0 : 0 < z
  · by_cases h1 : (s.size : Int) = z
    · obtain rfl : r = true := by rw [hv]; simp [h0, h1]
      have e1 : ((s.size : Int) == z) = true := by simpa using h1
      clear hv h1
      refine wp_region_grow (Below W6.heap.size W6) (by kernel_rfl) (by kernel_rfl) h0J ?_
      apply grow_step
      · intro w' hw K hK
        go_simp
        exact hK
      · exact ⟨_, rfl, Nat.le_of_ble_eq_true rfl⟩
      · exact ⟨_, h0J⟩
      apply grow_step
      · intro w' hw K hK
        obtain ⟨c0, c1⟩ := HC.out w' hw
        go_simp
        exact hK
      · exact ⟨_, rfl, Nat.le_of_ble_eq_true rfl⟩
      · exact ⟨_, h0J⟩
      refine grow_call (fun w' hw => (HZ.out w').mono fun e w'' ⟨he, hb⟩ => ⟨he, hw.trans (hb.mono hw.size)⟩) (by simp [Region.wanted]) (fun w' hw => by go_simp) ?_
      simp only [Act.put, List.setIfInBounds_toArray, List.set_cons_succ, List.set_cons_zero]
      apply grow_step
      · intro w' hw K hK
        go_simp
        exact hK
      · exact ⟨_, rfl, Nat.le_of_ble_eq_true rfl⟩
      · exact ⟨_, h0J⟩
      apply grow_step
      · intro w' hw K hK
        go_simp
        exact hK
      · exact ⟨_, rfl, Nat.le_of_ble_eq_true rfl⟩
      · exact ⟨_, h0J⟩
      apply grow_step
      · intro w' hw K hK
        go_simp
        exact hK
      · exact ⟨_, rfl, Nat.le_of_ble_eq_true rfl⟩
      · exact ⟨_, h0J⟩
      apply grow_step
      · intro w' hw K hK
        obtain ⟨c0, c1⟩ := HC.out w' hw
        go_simp
        exact hK
      · exact ⟨_, rfl, Nat.le_of_ble_eq_true rfl⟩
      · exact ⟨_, h0J⟩
      apply grow_step
      · intro w' hw K hK
        go_simp
        exact hK
      · exact ⟨_, rfl, Nat.le_of_ble_eq_true rfl⟩
      · exact ⟨_, h0J⟩
      apply grow_step
      · intro w' hw K hK
        go_simp
        exact hK
      · exact ⟨_, rfl, Nat.le_of_ble_eq_true rfl⟩
      · exact ⟨_, h0J⟩
      apply grow_step
      · intro w' hw K hK
        obtain ⟨c0, c1⟩ := HC.out w' hw
        go_simp
        exact hK
      · exact ⟨_, rfl, Nat.le_of_ble_eq_true rfl⟩
      · exact ⟨_, h0J⟩
      refine grow_call (fun w' hw => (HZ.out w').mono fun e w'' ⟨he, hb⟩ => ⟨he, hw.trans (hb.mono hw.size)⟩) (by go_simp) (fun w' hw => by go_simp) ?_
      simp only [Act.put, List.setIfInBounds_toArray, List.set_cons_succ, List.set_cons_zero]
      apply grow_step
      · intro w' hw K hK
        go_simp
        exact hK
      · exact ⟨_, rfl, Nat.le_of_ble_eq_true rfl⟩
      · exact ⟨_, h0J⟩
      apply grow_step
      · intro w' hw K hK
        go_simp
        exact hK
      · exact ⟨_, rfl, Nat.le_of_ble_eq_true rfl⟩
      · exact ⟨_, h0J⟩
      apply grow_step
      · intro w' hw K hK
        go_simp
        exact hK
      · exact ⟨_, rfl, Nat.le_of_ble_eq_true rfl⟩
      · exact ⟨_, h0J⟩
      refine grow_nil ?_
      intro w7 hw7
      go_wp2_with fail
      go_ret
      exact ⟨rfl, HBW.out.trans (hw7.mono HBW.out.size)⟩
    · obtain rfl : r = false := by rw [hv]; simp [h1]
      have e1 : ((s.size : Int) == z) = false := beq_eq_false_iff_ne.2 h1
      clear hv h1
      refine wp_region_grow (Below W6.heap.size W6) (by kernel_rfl) (by kernel_rfl) h0J ?_
      apply grow_step
      · intro w' hw K hK
        go_simp
        exact hK
      · exact ⟨_, rfl, Nat.le_of_ble_eq_true rfl⟩
      · exact ⟨_, h0J⟩
      apply grow_step
      · intro w' hw K hK
        obtain ⟨c0, c1⟩ := HC.out w' hw
        go_simp
        exact hK
      · exact ⟨_, rfl, Nat.le_of_ble_eq_true rfl⟩
      · exact ⟨_, h0J⟩
      refine grow_call (fun w' hw => (HZ.out w').mono fun e w'' ⟨he, hb⟩ => ⟨he, hw.trans (hb.mono hw.size)⟩) (by simp [Region.wanted]) (fun w' hw => by go_simp) ?_
      simp only [Act.put, List.setIfInBounds_toArray, List.set_cons_succ, List.set_cons_zero]
      apply grow_step
      · intro w' hw K hK
        go_simp
        exact hK
      · exact ⟨_, rfl, Nat.le_of_ble_eq_true rfl⟩
      · exact ⟨_, h0J⟩
      apply grow_step
      · intro w' hw K hK
        go_simp
        exact hK
      · exact ⟨_, rfl, Nat.le_of_ble_eq_true rfl⟩
      · exact ⟨_, h0J⟩
      apply grow_step
      · intro w' hw K hK
        go_simp
        exact hK
      · exact ⟨_, rfl, Nat.le_of_ble_eq_true rfl⟩
      · exact ⟨_, h0J⟩
      apply grow_step
      · intro w' hw K hK
        obtain ⟨c0, c1⟩ := HC.out w' hw
        go_simp
        exact hK
      · exact ⟨_, rfl, Nat.le_of_ble_eq_true rfl⟩
      · exact ⟨_, h0J⟩
      apply grow_step
      · intro w' hw K hK
        go_simp
        exact hK
      · exact ⟨_, rfl, Nat.le_of_ble_eq_true rfl⟩
      · exact ⟨_, h0J⟩
      apply grow_step
      · intro w' hw K hK
        go_simp
        exact hK
      · exact ⟨_, rfl, Nat.le_of_ble_eq_true rfl⟩
      · exact ⟨_, h0J⟩
      apply grow_step
      · intro w' hw K hK
        obtain ⟨c0, c1⟩ := HC.out w' hw
        go_simp
        exact hK
      · exact ⟨_, rfl, Nat.le_of_ble_eq_true rfl⟩
      · exact ⟨_, h0J⟩
      refine grow_call (fun w' hw => (HZ.out w').mono fun e w'' ⟨he, hb⟩ => ⟨he, hw.trans (hb.mono hw.size)⟩) (by go_simp) (fun w' hw => by go_simp) ?_
      simp only [Act.put, List.setIfInBounds_toArray, List.set_cons_succ, List.set_cons_zero]
      apply grow_step
      · intro w' hw K hK
        go_simp
        exact hK
      · exact ⟨_, rfl, Nat.le_of_ble_eq_true rfl⟩
      · exact ⟨_, h0J⟩
      apply grow_step
      · intro w' hw K hK
        go_simp
        exact hK
      · exact ⟨_, rfl, Nat.le_of_ble_eq_true rfl⟩
      · exact ⟨_, h0J⟩
      apply grow_step
      · intro w' hw K hK
        go_simp
        exact hK
      · exact ⟨_, rfl, Nat.le_of_ble_eq_true rfl⟩
      · exact ⟨_, h0J⟩
      refine grow_nil ?_
      intro w7 hw7
      go_wp2_with fail
      go_ret
      exact ⟨rfl, HBW.out.trans (hw7.mono HBW.out.size)⟩
  · obtain rfl : r = false := by rw [hv]; simp [h0]
    clear hv
    refine wp_region_grow (Below W6.heap.size W6) (by kernel_rfl) (by kernel_rfl) h0J ?_
    apply grow_step
    · intro w' hw K hK
      go_simp
      exact hK
    · exact ⟨_, rfl, Nat.le_of_ble_eq_true rfl⟩
    · exact ⟨_, h0J⟩
    apply grow_step
    · intro w' hw K hK
      obtain ⟨c0, c1⟩ := HC.out w' hw
      go_simp
      exact hK
    · exact ⟨_, rfl, Nat.le_of_ble_eq_true rfl⟩
    · exact ⟨_, h0J⟩
    refine grow_call (fun w' hw => (HZ.out w').mono fun e w'' ⟨he, hb⟩ => ⟨he, hw.trans (hb.mono hw.size)⟩) (by simp [Region.wanted]) (fun w' hw => by go_simp) ?_
    simp only [Act.put, List.setIfInBounds_toArray, List.set_cons_succ, List.set_cons_zero]
    apply grow_step
    · intro w' hw K hK
      go_simp
      exact hK
    · exact ⟨_, rfl, Nat.le_of_ble_eq_true rfl⟩
    · exact ⟨_, h0J⟩
    apply grow_step
    · intro w' hw K hK
      go_simp
      exact hK
    · exact ⟨_, rfl, Nat.le_of_ble_eq_true rfl⟩
    · exact ⟨_, h0J⟩
    apply grow_step
    · intro w' hw K hK
      go_simp
      exact hK
    · exact ⟨_, rfl, Nat.le_of_ble_eq_true rfl⟩
    · exact ⟨_, h0J⟩
    apply grow_step
    · intro w' hw K hK
      go_simp
      exact hK
    · exact ⟨_, rfl, Nat.le_of_ble_eq_true rfl⟩
    · exact ⟨_, h0J⟩
    apply grow_step
    · intro w' hw K hK
      go_simp
      exact hK
    · exact ⟨_, rfl, Nat.le_of_ble_eq_true rfl⟩
    · exact ⟨_, h0J⟩
    apply grow_step
    · intro w' hw K hK
      go_simp
      exact hK
    · exact ⟨_, rfl, Nat.le_of_ble_eq_true rfl⟩
    · exact ⟨_, h0J⟩
    apply grow_step
    · intro w' hw K hK
      go_simp
      exact hK
    · exact ⟨_, rfl, Nat.le_of_ble_eq_true rfl⟩
    · exact ⟨_, h0J⟩
    apply grow_step
    · intro w' hw K hK
      go_simp
      exact hK
    · exact ⟨_, rfl, Nat.le_of_ble_eq_true rfl⟩
    · exact ⟨_, h0J⟩
    apply grow_step
    · intro w' hw K hK
      go_simp
      exact hK
    · exact ⟨_, rfl, Nat.le_of_ble_eq_true rfl⟩
    · exact ⟨_, h0J⟩
    apply grow_step
    · intro w' hw K hK
      go_simp
      exact hK
    · exact ⟨_, rfl, Nat.le_of_ble_eq_true rfl⟩
    · exact ⟨_, h0J⟩
    apply grow_step
    · intro w' hw K hK
      go_simp
      exact hK
    · exact ⟨_, rfl, Nat.le_of_ble_eq_true rfl⟩
    · exact ⟨_, h0J⟩
    refine grow_nil ?_
    intro w7 hw7
    go_wp2_with fail
    go_ret
    exact ⟨rfl, HBW.out.trans (hw7.mono HBW.out.size)⟩

theorem lay_join {k : Int} {s : ByteArray} : (ByteArray.mk (lowBytes 1 k.toNat).toArray ++ s) ++ zeroB (32 - s.size) = ⟨(layB k s).toArray⟩ := by
  apply ByteArray.ext
  apply Array.toList_inj.1
  rw [ByteArray.data_append, Array.toList_append, ByteArray.data_append, Array.toList_append]
  rfl
set_option maxRecDepth 100000 in
set_option maxHeartbeats 2000000 in
theorem reflay_any (k : Int) (s : ByteArray) (w : World) (h0 : 0 ≤ k) (h1 : k < 256) (hs : s.size ≤ 32) :
    Calls Tryz.prog 15 #[.agg #[.int .i64 k, .string s]] w fun e w' => e = .returned (.string ⟨(layB k s).toArray⟩) ∧ Below w.heap.size w w' := by
  obtain ⟨A, hA⟩ : ∃ A : ByteArray, A = ⟨(lowBytes 1 k.toNat).toArray⟩ := ⟨_, rfl⟩
  obtain ⟨Z, hZ⟩ : ∃ Z : ByteArray, Z = zeroB (32 - s.size) := ⟨_, rfl⟩
  obtain ⟨z, hz⟩ : ∃ z : Int, z = 32 - (s.size : Int) := ⟨_, rfl⟩
  have HL : Hid (∀ w, Calls Tryz.prog 39 #[.int .u64 k, .int .i64 1] w fun e w' => e = .returned (.string A) ∧ Below w.heap.size w w') := Lib.hid (fun w => by
    have := ref_lowbytes k.toNat 1 w (by omega) (by omega) (by omega)
    rw [Int.toNat_of_nonneg h0, ← hA] at this
    exact this)
  have HZ : Hid (∀ w, Calls Tryz.prog 40 #[.int .i64 z] w fun e w' => e = .returned (.string Z) ∧ Below w.heap.size w w') := Lib.hid (fun w => by
    have := ref_zeros (32 - s.size) w (by omega)
    rw [show ((32 - s.size : Nat) : Int) = z by omega, ← hZ] at this
    exact this)
  have HJ : Hid ((A ++ s) ++ Z = ⟨(layB k s).toArray⟩) := Lib.hid (by rw [hA, hZ]; exact lay_join)
  have hAs : A.size = 1 := by rw [hA]; rfl
  have hZs : Z.size = 32 - s.size := by rw [hZ]; exact zeroB_size _
  have l1 : ¬ 9223372036854775807 < A.size + s.size := by omega
  have l2 : ¬ 9223372036854775807 < (A ++ s).size + Z.size := by rw [ByteArray.size_append]; omega
  have l3 : ¬ 9223372036854775807 < A.size + s.size + Z.size := by omega
  have hwz : IntKind.i64.wrap (32 - (s.size : Int)) = z := by rw [IntWalk.i64_in _ (by omega)]; omega
  have hk64 : IntKind.u64.wrap k = k := by simp [IntKind.wrap, IntKind.bits, IntKind.signed]; omega
  have b0 : Blk (w.alloc (.cells #[.int .i64 k, .string s] 24)) w.heap.size 24 #[.int .i64 k, .string s] := Blk.new w _ _
  have hb : Below w.heap.size w (w.alloc (.cells #[.int .i64 k, .string s] 24)) := (Below.refl _ _).alloc (Nat.le_refl _) _
  clear hA hZ hz hAs hZs
  have HWZ := Lib.hid hwz
  have HK := Lib.hid hk64
  clear hwz hk64
  go_enter Tryz.func15, Tryz.ntmps15
  go_upto_region 1 with fail
  obtain ⟨W6, hW6⟩ : ∃ W6, W6 = w.alloc (.cells #[.int .i64 k, .string s] 24) := ⟨_, rfl⟩
  rw [← hW6] at b0 hb
  rw [← hW6]
  clear hW6
  have HBW := Lib.hid hb
  have HC : Hid (∀ w', Below W6.heap.size W6 w' → w'.cell? ⟨w.heap.size, 0, none⟩ = some (.int .i64 k) ∧ w'.cell? ⟨w.heap.size, 1, none⟩ = some (.string s)) := Lib.hid (fun w' hw => ⟨(b0.below hw b0.lt).cell 0, (b0.below hw b0.lt).cell 1⟩)
  have h0J : Below W6.heap.size W6 W6.drew := below_drew (Below.refl _ _)
  clear b0 hb
  refine wp_region_grow (Below W6.heap.size W6) (by kernel_rfl) (by kernel_rfl) h0J ?_
  apply grow_step
  · intro w' hw K hK
    go_simp
    exact hK
  · exact ⟨_, rfl, Nat.le_of_ble_eq_true rfl⟩
  · exact ⟨_, h0J⟩
  apply grow_step
  · intro w' hw K hK
    obtain ⟨c0, c1⟩ := HC.out w' hw
    go_simp
    exact hK
  · exact ⟨_, rfl, Nat.le_of_ble_eq_true rfl⟩
  · exact ⟨_, h0J⟩
  apply grow_step
  · intro w' hw K hK
    have hk64 := HK.out
    go_simp
    exact hK
  · exact ⟨_, rfl, Nat.le_of_ble_eq_true rfl⟩
  · exact ⟨_, h0J⟩
  refine grow_call (fun w' hw => (HL.out w').mono fun e w'' ⟨he, hb⟩ => ⟨he, hw.trans (hb.mono hw.size)⟩) (by simp [Region.wanted]) (fun w' hw => by go_simp) ?_
  simp only [Act.put, List.setIfInBounds_toArray, List.set_cons_succ, List.set_cons_zero]
  apply grow_step
  · intro w' hw K hK
    go_simp
    exact hK
  · exact ⟨_, rfl, Nat.le_of_ble_eq_true rfl⟩
  · exact ⟨_, h0J⟩
  apply grow_step
  · intro w' hw K hK
    obtain ⟨c0, c1⟩ := HC.out w' hw
    go_simp
    exact hK
  · exact ⟨_, rfl, Nat.le_of_ble_eq_true rfl⟩
  · exact ⟨_, h0J⟩
  apply grow_step
  · intro w' hw K hK
    go_simp
    exact hK
  · exact ⟨_, rfl, Nat.le_of_ble_eq_true rfl⟩
  · exact ⟨_, h0J⟩
  apply grow_step
  · intro w' hw K hK
    go_simp
    exact hK
  · exact ⟨_, rfl, Nat.le_of_ble_eq_true rfl⟩
  · exact ⟨_, h0J⟩
  apply grow_step
  · intro w' hw K hK
    obtain ⟨c0, c1⟩ := HC.out w' hw
    go_simp
    exact hK
  · exact ⟨_, rfl, Nat.le_of_ble_eq_true rfl⟩
  · exact ⟨_, h0J⟩
  apply grow_step
  · intro w' hw K hK
    go_simp
    exact hK
  · exact ⟨_, rfl, Nat.le_of_ble_eq_true rfl⟩
  · exact ⟨_, h0J⟩
  apply grow_step
  · intro w' hw K hK
    have hwz := HWZ.out
    go_simp
    exact hK
  · exact ⟨_, rfl, Nat.le_of_ble_eq_true rfl⟩
  · exact ⟨_, h0J⟩
  refine grow_call (fun w' hw => (HZ.out w').mono fun e w'' ⟨he, hb⟩ => ⟨he, hw.trans (hb.mono hw.size)⟩) (by simp [Region.wanted]) (fun w' hw => by go_simp) ?_
  simp only [Act.put, List.setIfInBounds_toArray, List.set_cons_succ, List.set_cons_zero]
  apply grow_step
  · intro w' hw K hK
    go_simp
    exact hK
  · exact ⟨_, rfl, Nat.le_of_ble_eq_true rfl⟩
  · exact ⟨_, h0J⟩
  apply grow_step
  · intro w' hw K hK
    go_simp
    exact hK
  · exact ⟨_, rfl, Nat.le_of_ble_eq_true rfl⟩
  · exact ⟨_, h0J⟩
  refine grow_nil ?_
  intro w7 hw7
  go_wp2_with fail
  go_ret
  exact ⟨by rw [← HJ.out]; rfl, HBW.out.trans (hw7.mono HBW.out.size)⟩
end Go.Proofs.YtpliknofjgbfjaaGreatDoor

namespace Go.Proofs.YtpliknofjgbfjaaGreatDoor

theorem cmpB_range (a b : List UInt8) : Lib.compareBytes a b = -1 ∨ Lib.compareBytes a b = 0 ∨ Lib.compareBytes a b = 1 := by
  induction a generalizing b with
  | nil => cases b <;> simp [Lib.compareBytes]
  | cons x a ih =>
    cases b with
    | nil => simp [Lib.compareBytes]
    | cons y b =>
      simp only [Lib.compareBytes]
      split
      · simp
      · split
        · simp
        · exact ih b
theorem cmpB_swap (a b : List UInt8) : Lib.compareBytes b a = - Lib.compareBytes a b := by
  induction a generalizing b with
  | nil => cases b <;> simp [Lib.compareBytes]
  | cons x a ih =>
    cases b with
    | nil => simp [Lib.compareBytes]
    | cons y b =>
      simp only [Lib.compareBytes]
      by_cases h1 : x < y
      · have h2 : ¬ y < x := by rw [UInt8.lt_iff_toNat_lt] at *; omega
        rw [if_neg h2, if_pos h1, if_pos h1]; rfl
      · by_cases h2 : y < x
        · rw [if_pos h2, if_neg h1, if_pos h2]
        · rw [if_neg h2, if_neg h1, if_neg h1, if_neg h2]; exact ih b
theorem cmpB_zero (a b : List UInt8) : Lib.compareBytes a b = 0 ↔ a = b := by
  induction a generalizing b with
  | nil => cases b <;> simp [Lib.compareBytes]
  | cons x a ih =>
    cases b with
    | nil => simp [Lib.compareBytes]
    | cons y b =>
      simp only [Lib.compareBytes, List.cons.injEq]
      by_cases h1 : x < y
      · rw [if_pos h1]
        constructor
        · intro h; omega
        · rintro ⟨rfl, _⟩; rw [UInt8.lt_iff_toNat_lt] at h1; omega
      · rw [if_neg h1]
        by_cases h2 : y < x
        · rw [if_pos h2]
          constructor
          · intro h; omega
          · rintro ⟨rfl, _⟩; rw [UInt8.lt_iff_toNat_lt] at h2; omega
        · rw [if_neg h2, ih b]
          have : x = y := by rw [UInt8.lt_iff_toNat_lt] at *; exact UInt8.toNat_inj.1 (by omega)
          simp [this]
theorem cmpB_trans (a b c : List UInt8) (h1 : Lib.compareBytes a b ≤ 0) (h2 : Lib.compareBytes b c ≤ 0) : Lib.compareBytes a c ≤ 0 := by
  induction a generalizing b c with
  | nil => cases c <;> simp [Lib.compareBytes]
  | cons x a ih =>
    cases b with
    | nil => simp [Lib.compareBytes] at h1
    | cons y b =>
      cases c with
      | nil => simp [Lib.compareBytes] at h2
      | cons z c =>
        simp only [Lib.compareBytes] at h1 h2 ⊢
        by_cases e1 : x < y
        · by_cases e2 : y < z
          · have : x < z := by rw [UInt8.lt_iff_toNat_lt] at *; omega
            rw [if_pos this]; omega
          · rw [if_neg e2] at h2
            by_cases e3 : z < y
            · rw [if_pos e3] at h2; omega
            · have : x < z := by rw [UInt8.lt_iff_toNat_lt] at *; omega
              rw [if_pos this]; omega
        · rw [if_neg e1] at h1
          by_cases e4 : y < x
          · rw [if_pos e4] at h1; omega
          · rw [if_neg e4] at h1
            have hxy : x = y := by rw [UInt8.lt_iff_toNat_lt] at *; exact UInt8.toNat_inj.1 (by omega)
            subst hxy
            by_cases e2 : x < z
            · rw [if_pos e2]; omega
            · rw [if_neg e2] at h2 ⊢
              by_cases e3 : z < x
              · rw [if_pos e3] at h2; omega
              · rw [if_neg e3] at h2 ⊢
                exact ih b c h1 h2
theorem cmpI_cases (x y : Int) : (x < y ∧ Lib.compareInt x y = -1) ∨ (x = y ∧ Lib.compareInt x y = 0) ∨ (y < x ∧ Lib.compareInt x y = 1) := by
  unfold Lib.compareInt
  by_cases h1 : x < y
  · rw [if_pos h1]; exact .inl ⟨h1, rfl⟩
  · by_cases h2 : y < x
    · rw [if_neg h1, if_pos h2]; exact .inr (.inr ⟨h2, rfl⟩)
    · rw [if_neg h1, if_neg h2]; exact .inr (.inl ⟨by omega, rfl⟩)
/-- What stands between two prints: by kind, or by bytes. -/
theorem cmpK_cases (k : Int) (s : ByteArray) (l : Int) (t : ByteArray) : (k < l ∧ cmpK k s l t = -1) ∨ (k = l ∧ cmpK k s l t = Lib.compareBytes s.data.toList t.data.toList) ∨ (l < k ∧ cmpK k s l t = 1) := by
  unfold cmpK
  rcases cmpI_cases k l with ⟨h1, h2⟩ | ⟨h1, h2⟩ | ⟨h1, h2⟩ <;> rw [h2]
  · exact .inl ⟨h1, by rw [if_pos (by omega)]⟩
  · exact .inr (.inl ⟨h1, by rw [if_neg (by omega)]⟩)
  · exact .inr (.inr ⟨h1, by rw [if_pos (by omega)]⟩)
theorem cmpK_range (k : Int) (s : ByteArray) (l : Int) (t : ByteArray) : cmpK k s l t = -1 ∨ cmpK k s l t = 0 ∨ cmpK k s l t = 1 := by
  have h := cmpB_range s.data.toList t.data.toList
  rcases cmpK_cases k s l t with ⟨_, h2⟩ | ⟨_, h2⟩ | ⟨_, h2⟩ <;> omega
theorem cmpK_swap (k : Int) (s : ByteArray) (l : Int) (t : ByteArray) : cmpK l t k s = - cmpK k s l t := by
  have h := cmpB_swap s.data.toList t.data.toList
  rcases cmpK_cases k s l t with ⟨h1, h2⟩ | ⟨h1, h2⟩ | ⟨h1, h2⟩ <;> rcases cmpK_cases l t k s with ⟨h3, h4⟩ | ⟨h3, h4⟩ | ⟨h3, h4⟩ <;> omega
theorem bytes_eq {s t : ByteArray} : s.data.toList = t.data.toList ↔ s = t :=
  ⟨fun h => ByteArray.ext (Array.toList_inj.1 h), fun h => by rw [h]⟩
theorem cmpK_zero (k : Int) (s : ByteArray) (l : Int) (t : ByteArray) : cmpK k s l t = 0 ↔ k = l ∧ s = t := by
  have h := (cmpB_zero s.data.toList t.data.toList).trans bytes_eq
  rcases cmpK_cases k s l t with ⟨h1, h2⟩ | ⟨h1, h2⟩ | ⟨h1, h2⟩ <;> rw [h2]
  · constructor
    · intro h; omega
    · rintro ⟨rfl, _⟩; omega
  · rw [h]; simp [h1]
  · constructor
    · intro h; omega
    · rintro ⟨rfl, _⟩; omega
theorem cmpK_trans {k : Int} {s : ByteArray} {l : Int} {t : ByteArray} {m : Int} {u : ByteArray} (h1 : cmpK k s l t ≤ 0) (h2 : cmpK l t m u ≤ 0) : cmpK k s m u ≤ 0 := by
  have h := cmpB_trans s.data.toList t.data.toList u.data.toList
  rcases cmpK_cases k s l t with ⟨a1, a2⟩ | ⟨a1, a2⟩ | ⟨a1, a2⟩ <;> rcases cmpK_cases l t m u with ⟨b1, b2⟩ | ⟨b1, b2⟩ | ⟨b1, b2⟩ <;> rcases cmpK_cases k s m u with ⟨c1, c2⟩ | ⟨c1, c2⟩ | ⟨c1, c2⟩ <;> first | omega | (rw [c2]; exact h (by omega) (by omega))
theorem cmpK_trans' {k : Int} {s : ByteArray} {l : Int} {t : ByteArray} {m : Int} {u : ByteArray} (h1 : 0 ≤ cmpK k s l t) (h2 : 0 ≤ cmpK l t m u) : 0 ≤ cmpK k s m u := by
  have e1 := cmpK_swap k s l t
  have e2 := cmpK_swap l t m u
  have e3 := cmpK_swap k s m u
  have := cmpK_trans (k := m) (s := u) (l := l) (t := t) (m := k) (u := s) (by omega) (by omega)
  omega
end Go.Proofs.YtpliknofjgbfjaaGreatDoor

namespace Go.Proofs.YtpliknofjgbfjaaGreatDoor
open Go.RowKit

theorem wp_region_chain_at {P : Program} {ops : Array Oper} {Q : Exit → Act → World → Prop} {id : Nat} {a : Act} {w : World} (T : TypeId) (G : World → World → Prop) (k : Nat) (D : Nat → Option Nat) (N : Nat) (ci : Nat → Nat) (F : Nat → Value → World → Prop) (Ch : Nat → Value → World → Prop)
    (hm : P.follows .mixedOrders = true) (he : early .any ops = true) (hk : ops.size = k)
    (hinj : ∀ i j s, i < k → j < k → D i = some s → D j = some s → i = j) (hlt : ∀ i s, i < k → D i = some s → s < a.tmps.size)
    (hci : ∀ n, n < N → ci n < k) (hcinj : ∀ n m, n < N → m < N → ci n = ci m → n = m) (hcw : ∀ n, n + 1 < N → ci n ∈ waitsFor .any ops (ci (n + 1)))
    (hF : ∀ i v w w', F i v w → GrownT T w w' → F i v w') (hC : ∀ n v w w', Ch n v w → G w w' → Ch n v w') (hG : ∀ w w', G w w' → GrownT T w w') (h0 : Ch 0 undef w.drew)
    (hloose : ∀ i, i < k → (∀ n, n < N → ci n ≠ i) → ∀ (x : Act) (w' : World), FrameD a k D x → (∀ j ∈ waitsFor .any ops i, F j (slotOf x (D j)) w') → (∃ n v, n ≤ N ∧ Ch n v w') → wpOp P ops Q i (fun x' w'' => ∃ v, x' = x.put (D i) v ∧ (D i = none → v = undef) ∧ G w' w'' ∧ F i v w'') x w')
    (hchain : ∀ n, n < N → ∀ (x : Act) (w' : World), FrameD a k D x → (∀ j ∈ waitsFor .any ops (ci n), F j (slotOf x (D j)) w') → Ch n (if n = 0 then undef else slotOf x (D (ci (n - 1)))) w' → wpOp P ops Q (ci n) (fun x' w'' => ∃ v, x' = x.put (D (ci n)) v ∧ (D (ci n) = none → v = undef) ∧ GrownT T w' w'' ∧ Ch (n + 1) v w'' ∧ F (ci n) v w'') x w')
    (hK : ∀ (x : Act) (w' : World), FrameD a k D x → (∀ i, i < k → F i (slotOf x (D i)) w') → (∃ v, Ch N v w') → Q .normal x w') : (Code.region id ops true).wp P Q a w := by
  subst hk
  have key : ∀ (x : Act) (i j : Nat) (v : Value), i < ops.size → j < ops.size → i ≠ j → slotOf (x.put (D i) v) (D j) = slotOf x (D j) := by
    intro x i j v hi hj hij
    cases h1 : D i with
    | none => rfl
    | some s =>
      cases h2 : D j with
      | none => rfl
      | some t => exact put_there x s t v (fun e => hij (hinj i j s hi hj h1 (by rw [h2, e])))
  have here : ∀ (x : Act) (i : Nat) (v : Value), i < ops.size → FrameD a ops.size D x → (D i = none → v = undef) → slotOf (x.put (D i) v) (D i) = v := by
    intro x i v hi hf hn
    cases h1 : D i with
    | none => rw [hn h1]; rfl
    | some s => exact put_here x s v (by rw [hf.2.1]; exact hlt i s hi h1)
  have fput : ∀ (x : Act) (i : Nat) (v : Value), i < ops.size → FrameD a ops.size D x → FrameD a ops.size D (x.put (D i) v) := by
    intro x i v hi ⟨h1, h2, h3⟩
    cases h4 : D i with
    | none => exact ⟨h1, h2, h3⟩
    | some t =>
      refine ⟨h1, by simp [Act.put, h2], fun s hs => ?_⟩
      rw [← h3 s hs]
      simp only [Act.put]
      exact Array.getElem?_setIfInBounds_ne (fun e => hs i hi (by rw [h4, e]))
  refine wp_region_kept (fun L x w => FrameD a ops.size D x ∧ (∀ i, i < ops.size → L i = true → F i (slotOf x (D i)) w) ∧ ∃ n, n ≤ N ∧ (∀ m, m < N → (L (ci m) = true ↔ m < n)) ∧ Ch n (if n = 0 then undef else slotOf x (D (ci (n - 1)))) w) hm he ?_ ?_ ?_
  · exact ⟨⟨rfl, rfl, fun _ _ => rfl⟩, fun _ _ h => (by cases h), 0, Nat.zero_le _, fun m _ => by simp, h0⟩
  · intro L x w' i ⟨hf, hv, n, hn, hL, hch⟩ hi hLi hw
    have hww : ∀ j ∈ waitsFor .any ops i, F j (slotOf x (D j)) w' := fun j hj => by
      have hlt := List.all_eq_true.1 (List.all_eq_true.1 he i (List.mem_range.2 hi)) j hj
      have : j < i := by simpa using hlt
      exact hv j (by omega) (hw j hj)
    by_cases hic : ∃ m, m < N ∧ ci m = i
    · obtain ⟨m, hmN, rfl⟩ := hic
      have hnm : n = m := by
        have h1 : ¬ m < n := fun h => by rw [(hL m hmN).2 h] at hLi; cases hLi
        rcases Nat.lt_or_ge n m with h2 | h2
        · have h3 := hcw (m - 1) (by omega)
          rw [show m - 1 + 1 = m by omega] at h3
          have := (hL (m - 1) (by omega)).1 (hw _ h3)
          omega
        · omega
      subst hnm
      refine wpOp_mono (fun x' w'' h => ?_) (hchain n hmN x w' hf hww hch)
      obtain ⟨v, rfl, hnn, hg, hch', hfv⟩ := h
      refine ⟨fput x _ v hi hf, fun j hj hLj => ?_, n + 1, hmN, fun m hm' => ?_, ?_⟩
      · by_cases hij : ci n = j
        · subst hij
          rw [here x _ v hj hf hnn]
          exact hfv
        · simp only [if_neg hij] at hLj
          rw [key x _ j v hi hj hij]
          exact hF j _ _ _ (hv j hj hLj) hg
      · by_cases hmn : m = n
        · subst hmn; simp
        · have : ci n ≠ ci m := fun e => hmn (hcinj m n hm' hmN e.symm)
          simp only [if_neg this]
          rw [hL m hm']
          omega
      · rw [if_neg (by omega), show n + 1 - 1 = n by omega, here x _ v hi hf hnn]
        exact hch'
    · have hic' : ∀ m, m < N → ci m ≠ i := fun m hm e => hic ⟨m, hm, e⟩
      refine wpOp_mono (fun x' w'' h => ?_) (hloose i hi hic' x w' hf hww ⟨n, _, hn, hch⟩)
      obtain ⟨v, rfl, hnn, hg, hfv⟩ := h
      refine ⟨fput x _ v hi hf, fun j hj hLj => ?_, n, hn, fun m hm' => ?_, ?_⟩
      · by_cases hij : i = j
        · subst hij
          rw [here x _ v hj hf hnn]
          exact hfv
        · simp only [if_neg hij] at hLj
          rw [key x _ j v hi hj hij]
          exact hF j _ _ _ (hv j hj hLj) (hG _ _ hg)
      · have : i ≠ ci m := fun e => hic' m hm' e.symm
        simp only [if_neg this]
        exact hL m hm'
      · by_cases hn0 : n = 0
        · rw [if_pos hn0] at hch ⊢
          exact hC _ _ _ _ hch hg
        · rw [if_neg hn0] at hch ⊢
          rw [key x i _ v hi (hci _ (by omega)) (fun e => hic' (n - 1) (by omega) e.symm)]
          exact hC _ _ _ _ hch hg
  · intro L x w' ⟨hf, hv, n, hn, hL, hch⟩ hall
    have hnN : n = N := by
      rcases Nat.lt_or_ge n N with h | h
      · have := (hL n h).1 (hall _ (hci n h)); omega
      · omega
    subst hnN
    exact hK x w' hf (fun i hi => hv i hi (hall i hi)) ⟨_, hch⟩
end Go.Proofs.YtpliknofjgbfjaaGreatDoor

namespace Go.Proofs.YtpliknofjgbfjaaGreatDoor
open Go.RowKit

set_option maxHeartbeats 800000 in
theorem hash_any (k : Int) (s : ByteArray) (w : World) (hs : s.size ≤ 140737488351232) :
    Calls Tryz.prog 20 #[.agg #[.int .i64 k, .string s]] w fun e w' => e = .returned (.int .i64 (hashK s)) ∧ Below w.heap.size w w' := by
  by_cases h2 : s.size < 2
  · have e : hashK s = 0 := if_pos h2
    rw [e]
    clear e
    go_enter Tryz.func20, Tryz.ntmps20
    go_wp2
    go_ret
    exact ⟨rfl, (Below.refl _ _).alloc (Nat.le_refl _) _⟩
  · have h2' : 2 ≤ s.size := by omega
    have hl := hashK_low h2'
    have hz : (s.extract 0 2).size = 2 := by simp; omega
    have hd : (s.extract 0 2).data.toList = s.data.toList.take 2 := by simp
    have HL := Lib.hid hl
    obtain ⟨t, ht⟩ : ∃ t, t = s.extract 0 2 := ⟨_, rfl⟩
    rw [← ht] at hz hd
    have HN : Hid ((Rd.num ⟨t, 0⟩ 2).1 = hashK s) := Lib.hid (by
      have hk : Rd.take ⟨t, 0⟩ ((2 : Nat) : Int) = (t.extract 0 2, true, ⟨t.extract 2 t.size, 0⟩) := by
        unfold Rd.take
        rw [if_neg (by simp), if_neg (by omega), if_neg (by show ¬ (t.size : Int) < _; omega)]
        rfl
      have hf : t.extract 0 2 = t := by
        apply ByteArray.ext
        simp
        omega
      have hlt := low_lt (s.data.toList.take 2)
      have hlen : (s.data.toList.take 2).length = 2 := by rw [List.length_take, ← Lib.size_eq]; omega
      rw [hlen] at hlt
      unfold Rd.num
      rw [hk]
      simp only [if_true, hf, hd]
      rw [if_neg (by omega)]
      exact hl.symm)
    have HT := Lib.hid ht
    clear h2 hl hd ht
    go_enter Tryz.func20, Tryz.ntmps20
    go_wp2_with fail
    rw [← HT.out]
    refine (on_any t _ (by omega)).mono ?_
    rintro e w1 ⟨g, rfl, hg, hin, hb⟩
    go_wp2_with (go_at_call 44; refine (in_half g _ _ hin (by simp only; omega)).mono ?_; rintro e w2 ⟨rfl, h2, hg2⟩)
    go_ret
    have k1 : Below w.heap.size w w1 := ((Below.refl _ _).alloc (Nat.le_refl _) _).trans (hb.mono (by simp))
    exact ⟨by rw [← HN.out]; rfl, below_by_new k1 hg2 (by simp at hg; omega)⟩

theorem index_at (w : World) (s : ByteArray) (j : Nat) (h : j < s.size) : (Instr.index 9 (.string s) (.int .i64 (j : Int))).run Tryz.prog w = .ok (.int .u8 ((s.data.toList.getD j 0).toNat : Int)) w := by
  refine index_text w s j _ ?_
  have hl : j < s.data.toList.length := by rw [← Lib.size_eq]; exact h
  rw [List.getD_eq_getElem?_getD, List.getElem?_eq_getElem hl]
  show s[j]? = some (s.data.toList[j])
  rw [getElem?_pos s j h]
  rfl

set_option maxHeartbeats 800000 in
theorem refhash_any (k : Int) (s : ByteArray) (w : World) (hs : s.size ≤ 140737488351232) :
    Calls Tryz.prog 21 #[.agg #[.int .i64 k, .string s]] w fun e w' => e = .returned (.int .i64 (hashK s)) ∧ Below w.heap.size w w' := by
  by_cases h2 : s.size < 2
  · have e : hashK s = 0 := if_pos h2
    rw [e]
    clear e
    go_enter Tryz.func21, Tryz.ntmps21
    go_wp2
    go_ret
    exact ⟨rfl, (Below.refl _ _).alloc (Nat.le_refl _) _⟩
  · have h0 := fun w => index_at w s 0 (by omega)
    have h1 := fun w => index_at w s 1 (by omega)
    have HE := Lib.hid (show hashK s = _ from if_neg h2)
    have b0 := (s.data.toList.getD 0 0).toNat_lt
    have b1 := (s.data.toList.getD 1 0).toNat_lt
    generalize (s.data.toList.getD 0 0).toNat = x at *
    generalize (s.data.toList.getD 1 0).toNat = y at *
    simp only [Int.natCast_zero, Int.natCast_one] at h0 h1
    go_enter Tryz.func21, Tryz.ntmps21
    go_wp2_with fail
    go_quiet (fail)
    go_wp2_with fail
    go_ret
    exact ⟨by rw [HE.out]; rfl, below_drewN ((Below.refl _ _).alloc (Nat.le_refl _) _) _⟩
end Go.Proofs.YtpliknofjgbfjaaGreatDoor

namespace Go.Proofs.YtpliknofjgbfjaaGreatDoor
open Go.RowKit

set_option maxRecDepth 100000 in
set_option maxHeartbeats 2000000 in
theorem refhex_none (w : World) :
    Calls Tryz.prog 23 #[.string .empty] w fun e w' => e = .returned (.string .empty) ∧ Below w.heap.size w w' := by
  have hcv : (convert 63 9 (.slice none 0 0)).run Tryz.prog w = .ok (.string ⟨#[]⟩) w := by
    rw [run_convert_bytes_string w 63 9 5 none 0 0 Tryz.underlying63 Tryz.underlying5 Tryz.underlying9]
    rfl
  go_enter Tryz.func23, Tryz.ntmps23
  go_wp2_with fail
  go_loopw [3, 4] (fun b i wr => i = .int .i64 0 ∧ b = .slice none 0 0 ∧ wr = w) (fun _ i _ => 0)
  case atStart => exact ⟨rfl, rfl, rfl⟩
  case round =>
    obtain ⟨rfl, rfl, rfl⟩ := hrel
    go_wp2_with fail
    go_ret
    exact ⟨rfl, Below.refl _ _⟩
theorem refhex_any (s : ByteArray) (w : World) (hs : s.size ≤ 1000) :
    Calls Tryz.prog 23 #[.string s] w fun e w' => e = .returned (.string ⟨(hexB s.data.toList).toArray⟩) ∧ Below w.heap.size w w' := by
  by_cases h0 : 0 < s.size
  · exact hex_any s w hs h0
  · have h : s = .empty := by
      obtain ⟨⟨l⟩⟩ := s
      have hl : ¬ 0 < l.length := h0
      cases l with
      | nil => rfl
      | cons a l => simp at hl
    rw [h]
    exact refhex_none w
end Go.Proofs.YtpliknofjgbfjaaGreatDoor

namespace Go.Proofs.YtpliknofjgbfjaaGreatDoor
open Go.RowKit

theorem cmpK_or (k : Int) (s : ByteArray) (l : Int) (t : ByteArray) : cmpK k s l t = orK (Lib.compareInt k l) (Lib.compareBytes s.data.toList t.data.toList) := rfl

set_option maxRecDepth 100000 in
set_option maxHeartbeats 2000000 in
theorem compare_any (k : Int) (s : ByteArray) (l : Int) (t : ByteArray) (w : World) :
    Calls Tryz.prog 18 #[.agg #[.int .i64 k, .string s], .agg #[.int .i64 l, .string t]] w fun e w' => e = .returned (.int .i64 (cmpK k s l t)) ∧ Below w.heap.size w w' := by
  rw [cmpK_or]
  have HC := Lib.hid (fun w => cmpint_any k l w)
  have HS := Lib.hid (fun w => strcmp_any s t w)
  generalize Lib.compareInt k l = x at *
  generalize Lib.compareBytes s.data.toList t.data.toList = y at *
  go_enter Tryz.func18, Tryz.ntmps18
  go_wp2_with fail
  obtain ⟨W2, hW2⟩ : ∃ W2, W2 = (w.alloc (.cells #[.int .i64 k, .string s] 24)).alloc (.cells #[.int .i64 l, .string t] 24) := ⟨_, rfl⟩
  have b0 : Blk W2 w.heap.size 24 #[.int .i64 k, .string s] := by rw [hW2]; exact (Blk.new w _ _).alloc _
  have b1 : Blk W2 (w.heap.size + 1) 24 #[.int .i64 l, .string t] := by
    have := Blk.new (w.alloc (.cells #[.int .i64 k, .string s] 24)) 24 #[.int .i64 l, .string t]
    rw [hW2]
    simpa using this
  have hb : Below w.heap.size w W2 := by rw [hW2]; exact ((Below.refl _ _).alloc (Nat.le_refl _) _).alloc (by simp) _
  rw [← hW2]
  have c0 := b0.cell 0
  have c1 := b0.cell 1
  have c2 := b1.cell 0
  have c3 := b1.cell 1
  simp at c0 c1 c2 c3
  clear hW2 b0 b1
  go_still_tail 10, (by kernel_rfl)
  still_call ((HC.out _).mono (fun e w' h => h))
  repeat still_step
  still_call ((HS.out _).mono (fun e w' h => h))
  repeat still_step
  refine wpStill_nil ?_
  go_wp2_with fail
  have hd : Blk (W2.alloc (.cells #[.int .i64 x, .int .i64 y] 3)).drew W2.heap.size 3 #[.int .i64 x, .int .i64 y] := (Blk.new W2 _ _).drew
  refine (or_any x y _ 2 _ (by rw [hd.cell]; rfl) (by rw [hd.cell]; rfl)).mono ?_
  rintro e w1 ⟨rfl, rfl⟩
  clear hd c0 c1 c2 c3
  go_wp2_with fail
  go_ret
  exact ⟨rfl, below_drew (hb.alloc hb.size _)⟩
end Go.Proofs.YtpliknofjgbfjaaGreatDoor

namespace Go.Proofs.YtpliknofjgbfjaaGreatDoor
open Go.RowKit

theorem less_cmp (a b : List UInt8) : Op.bytesLess a b = decide (Lib.compareBytes a b = -1) := by
  induction a generalizing b with
  | nil => cases b <;> simp [Op.bytesLess, Lib.compareBytes]
  | cons x a ih =>
    cases b with
    | nil => simp [Op.bytesLess, Lib.compareBytes]
    | cons y b =>
      simp only [Op.bytesLess, Lib.compareBytes]
      by_cases h1 : x < y
      · simp [h1]
      · by_cases h2 : y < x
        · have h3 : (x == y) = false := beq_eq_false_iff_ne.2 (fun e => by subst e; exact h1 h2)
          simp [h1, h2, h3]
        · have h3 : x = y := by rw [UInt8.lt_iff_toNat_lt] at *; exact UInt8.toNat_inj.1 (by omega)
          subst h3
          simp [h1, ih]

set_option maxRecDepth 100000 in
set_option maxHeartbeats 2000000 in
theorem refcmp_any (k : Int) (s : ByteArray) (l : Int) (t : ByteArray) (w : World) :
    Calls Tryz.prog 19 #[.agg #[.int .i64 k, .string s], .agg #[.int .i64 l, .string t]] w fun e w' => e = .returned (.int .i64 (cmpK k s l t)) ∧ Below w.heap.size w w' := by
  have hbb : Below w.heap.size w ((w.alloc (.cells #[.int .i64 k, .string s] 24)).alloc (.cells #[.int .i64 l, .string t] 24)) := ((Below.refl _ _).alloc (Nat.le_refl _) _).alloc (by simp) _
  rcases cmpK_cases k s l t with ⟨h1, h2⟩ | ⟨h1, h2⟩ | ⟨h1, h2⟩
  · rw [h2]
    clear h2
    go_enter Tryz.func19, Tryz.ntmps19
    go_wp2_with fail
    go_ret
    exact ⟨rfl, hbb⟩
  · rw [h2]
    clear h2
    subst h1
    have hl : Op.bytesLess s.toList t.toList = decide (Lib.compareBytes s.data.toList t.data.toList = -1) := by rw [Lib.toList_data, Lib.toList_data]; exact less_cmp _ _
    have hz := (cmpB_zero s.data.toList t.data.toList).trans bytes_eq
    rcases cmpB_range s.data.toList t.data.toList with h | h | h
    · rw [h] at hl ⊢
      have hl : Op.bytesLess s.toList t.toList = true := by simpa using hl
      clear hz h
      go_enter Tryz.func19, Tryz.ntmps19
      go_wp2_with fail
      go_ret
      exact ⟨rfl, hbb⟩
    · rw [h] at hl ⊢
      have hl : Op.bytesLess s.toList t.toList = false := by simpa using hl
      obtain rfl := hz.1 h
      clear hz h
      go_enter Tryz.func19, Tryz.ntmps19
      go_wp2_with fail
      go_ret
      exact ⟨rfl, hbb⟩
    · rw [h] at hl ⊢
      have hl : Op.bytesLess s.toList t.toList = false := by simpa using hl
      have hne : (s.toList == t.toList) = false := by rw [Lib.toList_data, Lib.toList_data]; exact beq_eq_false_iff_ne.2 fun e => by have := hz.2 (bytes_eq.1 e); omega
      clear hz h
      go_enter Tryz.func19, Tryz.ntmps19
      go_wp2_with fail
      go_ret
      exact ⟨rfl, hbb⟩
  · rw [h2]
    have h3 : ¬ k < l := by omega
    have h4 : (k == l) = false := beq_eq_false_iff_ne.2 (by omega)
    clear h2 h1
    go_enter Tryz.func19, Tryz.ntmps19
    go_wp2_with fail
    go_ret
    exact ⟨rfl, hbb⟩

set_option maxRecDepth 100000 in
set_option maxHeartbeats 2000000 in
theorem refread_short (b : ByteArray) (w : World) (h : b.size ≠ 33) :
    Calls Tryz.prog 14 #[.string b] w fun e w' => e = .returned (.tuple #[.agg #[.int .i64 0, .string .empty], .int .i64 5]) ∧ Below w.heap.size w w' := by
  have hi : ((b.size : Int) == 33) = false := beq_eq_false_iff_ne.2 (by omega)
  have hi2 : ((b.size : Int) != 33) = true := by simp [bne, hi]
  clear h
  go_enter Tryz.func14, Tryz.ntmps14
  go_wp2_with fail
  have b1 : Blk (w.alloc (.cells #[.int .i64 0, .string ⟨#[]⟩] 24)) w.heap.size 24 #[.int .i64 0, .string ⟨#[]⟩] := Blk.new w _ _
  have hl : (loadVar 24 ⟨w.heap.size, 0, none⟩).run Tryz.prog (w.alloc (.cells #[.int .i64 0, .string ⟨#[]⟩] 24)) = .ok (.agg #[.int .i64 0, .string ⟨#[]⟩]) _ :=
    run_var_part (off := 0) b1 (fun j v h => by rw [Nat.zero_add]; exact h) (fun w => by kernel_rfl) (fun w => by kernel_rfl)
  refine ret_cell2 rfl rfl hl rfl rfl ?_
  exact ⟨rfl, (Below.refl _ _).alloc (Nat.le_refl _) _⟩


/-- Bytes are those of the print that stands in them, if what is behind it is zero. -/
theorem lay_back {b : ByteArray} (h : b.size = 33) {z : Nat} (hz : z ≤ 32) : (ByteArray.mk (layB (kindB b) (b.extract 1 (1 + z))).toArray).data.toList = b.data.toList ↔ (b.data.toList.drop (1 + z)).all (· == 0) = true := by
  have hs : (b.extract 1 (1 + z)).size = z := by simp; omega
  have hl : b.data.toList.length = 33 := by rw [← Lib.size_eq]; exact h
  show layB (kindB b) (b.extract 1 (1 + z)) = b.data.toList ↔ _
  unfold layB
  rw [hs, extract_list]
  generalize hL : b.data.toList = L at *
  have hk : (kindB b).toNat.toUInt8 = L.getD 0 0 := by
    unfold kindB
    rw [hL]
    apply UInt8.toNat_inj.1
    have := (L.getD 0 0).toNat_lt
    show (((L.getD 0 0).toNat : Int).toNat) % 256 = _
    rw [Int.toNat_natCast]
    omega
  rw [hk]
  match L, hl with
  | x :: r, hl =>
    have hr : r.length = 32 := by simpa using hl
    rw [show 1 + z = z + 1 by omega, List.drop_succ_cons, List.drop_succ_cons, List.drop_zero, show z + 1 - 1 = z by omega]
    have hsp : r = r.take z ++ r.drop z := (List.take_append_drop z r).symm
    have hd : (r.drop z).length = 32 - z := by rw [List.length_drop, hr]
    constructor
    · intro e
      have e := (List.cons.inj e).2
      have e2 : r.drop z = List.replicate (32 - z) 0 := by
        have := congrArg (List.drop z) e
        rw [List.drop_append_of_le_length (by rw [List.length_take]; omega), List.drop_take_self, List.nil_append] at this
        exact this.symm
      rw [e2]
      simp
    · intro e
      have e2 : r.drop z = List.replicate (32 - z) 0 := by
        rw [List.eq_replicate_iff]
        exact ⟨hd, fun y hy => by have := List.all_eq_true.1 e y hy; simpa using this⟩
      rw [← e2, ← hsp]
      rfl

def rpD (i : Nat) : Option Nat := [14, 15, 16, 17, 18, 19, 20, 21, 5][i]?
theorem rpD_inj (i j s : Nat) (_ : i < 10) (_ : j < 10) (h1 : rpD i = some s) (h2 : rpD j = some s) : i = j := slots_inj (by decide) i j s h1 h2
theorem rpD_lt (i s : Nat) (_ : i < 10) (h : rpD i = some s) : s < 32 := (by decide : ∀ x ∈ [14, 15, 16, 17, 18, 19, 20, 21, 5], x < 32) s (List.mem_of_getElem? h)
def rpC (n : Nat) : Nat := [8, 9].getD n 0
theorem rpC_inj (i j : Nat) (hi : i < 2) (hj : j < 2) (h : rpC i = rpC j) : i = j := (by decide : ∀ i, i < 2 → ∀ j, j < 2 → rpC i = rpC j → i = j) i hi j hj h
theorem rpC_lt : ∀ i, i < 2 → rpC i < 10 := by decide
def rpF (g : Nat) (b S : ByteArray) (x z : Nat) (z1 : Int) : Nat → Value → World → Prop
  | 0, v, _ => v = .string b
  | 1, v, _ => v = .int .u8 (x : Int)
  | 2, v, _ => v = .int .i64 (x : Int)
  | 3, v, _ => v = .string b
  | 4, v, _ => v = .int .i64 (z : Int)
  | 5, v, _ => v = .int .i64 z1
  | 6, v, _ => v = .string S
  | 7, v, _ => v = .agg #[.int .i64 (x : Int), .string S]
  | 8, v, _ => v = .pointer (some ⟨g, 0, none⟩)
  | _, _, _ => True
def rpW (W0 : World) : World := W0.drew.alloc (.cells #[.int .i64 0, .string ⟨#[]⟩] 24)
def rpCh (W0 : World) (S : ByteArray) (x : Nat) : Nat → Value → World → Prop
  | 0, _, w => w = W0.drew
  | 1, v, w => v = .pointer (some ⟨W0.heap.size, 0, none⟩) ∧ w = rpW W0
  | _, _, w => w = ((rpW W0).setCell ⟨W0.heap.size, 0, none⟩ (.int .i64 (x : Int))).setCell ⟨W0.heap.size, 1, none⟩ (.string S)
theorem rpF_kept {T : TypeId} {g : Nat} {b S : ByteArray} {x z : Nat} {z1 : Int} (i : Nat) (v : Value) (w w' : World) (h : rpF g b S x z z1 i v w) (_ : GrownT T w w') : rpF g b S x z z1 i v w' := by
  unfold rpF at h ⊢
  split at h <;> exact h

set_option maxRecDepth 100000 in
set_option maxHeartbeats 4000000 in
theorem refread_long (b : ByteArray) (w : World) (h : b.size = 33) :
    Calls Tryz.prog 14 #[.string b] w fun e w' => e = .returned (readV b) ∧ Below w.heap.size w w' := by
  obtain ⟨x, hx⟩ : ∃ x, x = (b.data.toList.getD 0 0).toNat := ⟨_, rfl⟩
  have hk : kindB b = (x : Int) := by rw [hx]; rfl
  have hx256 : x < 256 := by rw [hx]; exact (b.data.toList.getD 0 0).toNat_lt
  have hix := fun w => index_at w b 0 (by omega)
  rw [← hx] at hix
  simp only [Int.natCast_zero] at hix
  obtain ⟨z, hz⟩ : ∃ z : Nat, z = (sizeK (x : Int)).toNat := ⟨_, rfl⟩
  have hzr := sizeK_range (x : Int)
  have hzI : sizeK (x : Int) = (z : Int) := by omega
  have hz32 : z ≤ 32 := by omega
  obtain ⟨S, hS⟩ : ∃ S, S = b.extract 1 (1 + z) := ⟨_, rfl⟩
  have hSs : S.size = z := by rw [hS]; simp; omega
  obtain ⟨z1, hz1⟩ : ∃ z1 : Int, z1 = 1 + (z : Int) := ⟨_, rfl⟩
  have HZ : Hid (∀ w1, Calls Tryz.prog 8 #[.int .i64 (x : Int)] w1 fun e w' => e = .returned (.int .i64 (z : Int)) ∧ w1 = w') := Lib.hid (fun w1 => by rw [← hzI]; exact refsize_any _ w1)
  obtain ⟨Y, hY⟩ : ∃ Y : ByteArray, Y = ⟨(layB (x : Int) S).toArray⟩ := ⟨_, rfl⟩
  have HL : Hid (∀ w1, Calls Tryz.prog 15 #[.agg #[.int .i64 (x : Int), .string S]] w1 fun e w' => e = .returned (.string Y) ∧ Below w1.heap.size w1 w') := Lib.hid (fun w1 => by rw [hY]; exact reflay_any (x : Int) S w1 (by omega) (by omega) (by omega))
  have hYB : (Y.toList == b.toList) = (b.data.toList.drop (1 + z)).all (· == 0) := by
    have := lay_back h hz32
    rw [hk, ← hS, ← hY] at this
    rw [Lib.toList_data, Lib.toList_data, Bool.eq_iff_iff]
    rw [← this]
    simp
  have hok : readOk b = (decide (0 < z) && (Y.toList == b.toList)) := by
    unfold readOk
    rw [hk, ← hz, ← hYB, decide_eq_true h, hzI]
    simp
  have HVV : Hid (readV b = if (decide (0 < z) && (Y.toList == b.toList)) = true then .tuple #[.agg #[.int .i64 (x : Int), .string S], .int .i64 0] else .tuple #[.agg #[.int .i64 0, .string .empty], .int .i64 6]) := Lib.hid (by
    unfold readV
    rw [if_neg (by omega), hok, hk, ← hz, ← hS])
  have HE : Hid (b.extract 1 z1.toNat = S) := Lib.hid (by rw [hS, hz1]; congr 1)
  have HLB : Hid ((1 : Int) ≤ z1 ∧ z1 ≤ 33 ∧ (b.size : Int) = 33) := Lib.hid (by omega)
  have HW1 : Hid (IntKind.i64.wrap (1 + (z : Int)) = z1) := Lib.hid (by rw [IntWalk.i64_in _ (by omega)]; exact hz1.symm)
  have HXK : Hid (IntKind.i64.wrap (x : Int) = x) := Lib.hid (IntWalk.i64_in _ (by omega))
  obtain ⟨Q, hQ⟩ : ∃ Q, Q = (Y.toList == b.toList) := ⟨_, rfl⟩
  rw [← hQ] at HVV
  have hi2 : ((b.size : Int) != 33) = false := by simp [bne, h]
  have hi : ((b.size : Int) == 33) = true := by simp [h]
  have hix0 := hix
  have HIX := Lib.hid hix0
  clear hx hk hz hzr hzI hS hSs hz1 hY hYB hok h hix0
  go_enter Tryz.func14, Tryz.ntmps14
  go_wp2_with fail
  refine (HZ.out _).mono ?_
  rintro e w1 ⟨rfl, rfl⟩
  clear hix hi hi2
  go_upto_region 4 with fail
  obtain ⟨W0, hW0⟩ : ∃ W0, W0 = w.alloc (.cells #[.int .i64 0, .string ⟨#[]⟩] 24) := ⟨_, rfl⟩
  have b0 : Blk W0 w.heap.size 24 #[.int .i64 0, .string ⟨#[]⟩] := by rw [hW0]; exact Blk.new w _ _
  have k0 : Below w.heap.size w W0 := by rw [hW0]; exact (Below.refl _ _).alloc (Nat.le_refl _) _
  rw [← hW0]
  clear hW0
  refine wp_region_chain_at 24 (fun w w' => w' = w) 10 rpD 2 rpC (rpF W0.heap.size b S x z z1) (rpCh W0 S x) (by kernel_rfl) (by kernel_rfl) rfl rpD_inj rpD_lt rpC_lt rpC_inj ?hcw rpF_kept ?hC ?hG ?h0 ?hloose ?hchain ?hK
  case hcw =>
    intro n hn
    obtain rfl : n = 0 := by omega
    exact of_decide_eq_true (by kernel_rfl)
  case hC => intro n v w w' h hg; subst hg; exact h
  case hG => intro w w' h; subst h; exact GrownT.of_none (by_refl _ _)
  case h0 => rfl
  case hloose =>
    intro i hi hn y w2 hf hw _
    rcases (show i = 0 ∨ i = 1 ∨ i = 2 ∨ i = 3 ∨ i = 4 ∨ i = 5 ∨ i = 6 ∨ i = 7 ∨ i = 8 ∨ i = 9 by omega) with rfl | rfl | rfl | rfl | rfl | rfl | rfl | rfl | rfl | rfl
    · have e1 : y.tmps[0]?.getD undef = .string b := by rw [hf.2.2 0 (by decide)]; rfl
      clear hf hw hn
      refine wpOp_value (v := .string b) (w' := w2) rfl rfl ?_ ⟨_, rfl, (fun h => by cases h), rfl, rfl⟩
      go_simp
    · have hix := HIX.out w2
      have e1 : y.tmps[14]?.getD undef = .string b := hw 0 (of_decide_eq_true (by kernel_rfl))
      clear hf hw hn
      refine wpOp_value (v := .int .u8 (x : Int)) (w' := w2) rfl rfl ?_ ⟨_, rfl, (fun h => by cases h), rfl, rfl⟩
      exact exec_index rfl (by simpa [Act.eval] using e1) rfl hix
    · have hxk := HXK.out
      have e1 : y.tmps[15]?.getD undef = .int .u8 (x : Int) := hw 1 (of_decide_eq_true (by kernel_rfl))
      clear hf hw hn
      refine wpOp_value (v := .int .i64 (x : Int)) (w' := w2) rfl rfl ?_ ⟨_, rfl, (fun h => by cases h), rfl, rfl⟩
      go_simp
    · have e1 : y.tmps[0]?.getD undef = .string b := by rw [hf.2.2 0 (by decide)]; rfl
      clear hf hw hn
      refine wpOp_value (v := .string b) (w' := w2) rfl rfl ?_ ⟨_, rfl, (fun h => by cases h), rfl, rfl⟩
      go_simp
    · have e1 : y.tmps[4]?.getD undef = .int .i64 (z : Int) := by rw [hf.2.2 4 (by decide)]; rfl
      clear hf hw hn
      refine wpOp_value (v := .int .i64 (z : Int)) (w' := w2) rfl rfl ?_ ⟨_, rfl, (fun h => by cases h), rfl, rfl⟩
      go_simp
    · have hW1 := HW1.out
      have e1 : y.tmps[18]?.getD undef = .int .i64 (z : Int) := hw 4 (of_decide_eq_true (by kernel_rfl))
      clear hf hw hn
      refine wpOp_value (v := .int .i64 z1) (w' := w2) rfl rfl ?_ ⟨_, rfl, (fun h => by cases h), rfl, rfl⟩
      go_simp
    · have e1 : y.tmps[17]?.getD undef = .string b := hw 3 (of_decide_eq_true (by kernel_rfl))
      have hE := HE.out
      have l1 := HLB.out.1
      have l2 := HLB.out.2.1
      have l3 := HLB.out.2.2
      have e2 : y.tmps[19]?.getD undef = .int .i64 z1 := hw 5 (of_decide_eq_true (by kernel_rfl))
      clear hf hw hn
      refine wpOp_value (v := .string S) (w' := w2) rfl rfl ?_ ⟨_, rfl, (fun h => by cases h), rfl, rfl⟩
      go_simp
    · have e1 : y.tmps[16]?.getD undef = .int .i64 (x : Int) := hw 2 (of_decide_eq_true (by kernel_rfl))
      have e2 : y.tmps[20]?.getD undef = .string S := hw 6 (of_decide_eq_true (by kernel_rfl))
      clear hf hw hn
      refine wpOp_value (v := .agg #[.int .i64 (x : Int), .string S]) (w' := w2) rfl rfl ?_ ⟨_, rfl, (fun h => by cases h), rfl, rfl⟩
      go_simp
    · exact absurd rfl (hn 0 (by omega))
    · exact absurd rfl (hn 1 (by omega))
  case hchain =>
    intro n hn y w2 hf hw hch
    rcases (show n = 0 ∨ n = 1 by omega) with rfl | rfl
    · have hch : w2 = W0.drew := hch
      subst hch
      clear hf hw
      change wpOp _ _ _ 8 _ _ _
      refine wpOp_value (v := .pointer (some ⟨W0.heap.size, 0, none⟩)) (w' := W0.drew.alloc (.cells #[.int .i64 0, .string ⟨#[]⟩] 24)) rfl rfl ?_ ⟨_, rfl, (fun h => by cases h), GrownT.of_none (by_alloc (by_refl _ _) _), ⟨rfl, rfl⟩, rfl⟩
      go_simp
    · obtain ⟨hv1, hch⟩ : slotOf y (some 5) = .pointer (some ⟨W0.heap.size, 0, none⟩) ∧ w2 = rpW W0 := hch
      have e1 : y.tmps[5]?.getD undef = .pointer (some ⟨W0.heap.size, 0, none⟩) := hv1
      have e2 : y.tmps[21]?.getD undef = .agg #[.int .i64 (x : Int), .string S] := hw 7 (of_decide_eq_true (by kernel_rfl))
      subst hch
      have bk : Blk (rpW W0) W0.heap.size 24 #[.int .i64 0, .string ⟨#[]⟩] := Blk.new W0.drew _ _
      have c0 := bk.cell 0
      have c1 := bk.cell 1
      have f0 := bk.frozen 0
      have f1 := bk.frozen 1
      simp at c0 c1
      clear hf hw hv1
      change wpOp _ _ _ 9 _ _ _
      refine wpOp_skip (w' := ((rpW W0).setCell ⟨W0.heap.size, 0, none⟩ (.int .i64 (x : Int))).setCell ⟨W0.heap.size, 1, none⟩ (.string S)) rfl rfl ?_ ⟨undef, rfl, (fun _ => rfl), GrownT.of_by (by_put (by_put (by_refl _ _) 0 _) 1 _) bk, rfl, trivial⟩
      go_simp
  case hK =>
    intro y w2 hf hv hch
    obtain ⟨_, hch⟩ := hch
    have hch : w2 = ((rpW W0).setCell ⟨W0.heap.size, 0, none⟩ (.int .i64 (x : Int))).setCell ⟨W0.heap.size, 1, none⟩ (.string S) := hch
    have e5 : y.tmps[5]?.getD undef = .pointer (some ⟨W0.heap.size, 0, none⟩) := hv 8 (by omega)
    have hr2 : Blk w2 w.heap.size 24 #[.int .i64 0, .string ⟨#[]⟩] := by
      rw [hch]
      exact ((b0.drew.alloc _).far (by have := b0.lt; simp; omega) _).far (by have := b0.lt; simp; omega) _
    have hp2 : Blk w2 W0.heap.size 24 #[.int .i64 (x : Int), .string S] := by
      rw [hch]
      exact ((Blk.new W0.drew 24 #[.int .i64 0, .string ⟨#[]⟩]).put 0 (.int .i64 (x : Int))).put 1 (.string S)
    have k2 : Below w.heap.size w w2 := by
      rw [hch]
      exact (((below_drew k0).alloc k0.size _).setCell k0.size _).setCell k0.size _
    clear hch hv
    obtain ⟨⟨l⟩, dd⟩ := y
    obtain rfl : dd = [] := hf.1
    have hlen : l.length = 32 := hf.2.1
    obtain ⟨y0, y1, y2, y3, y4, y5, y6, y7, y8, y9, y10, y11, y12, y13, y14, y15, y16, y17, y18, y19, y20, y21, y22, y23, y24, y25, y26, y27, y28, y29, y30, y31, rfl⟩ := list32 l hlen
    obtain rfl : y0 = .string b := Option.some.inj (hf.2.2 0 (by decide))
    obtain rfl : y2 = .pointer (some ⟨w.heap.size, 0, none⟩) := Option.some.inj (hf.2.2 2 (by decide))
    obtain rfl : y3 = .int .i64 0 := Option.some.inj (hf.2.2 3 (by decide))
    obtain rfl : y4 = .int .i64 (z : Int) := Option.some.inj (hf.2.2 4 (by decide))
    have e5 : y5 = .pointer (some ⟨W0.heap.size, 0, none⟩) := e5
    subst e5
    clear hf hlen
    have c2 := hp2.cell 0
    have c3 := hp2.cell 1
    simp at c2 c3
    by_cases hz0 : z = 0
    · have hzb : ((z : Int) == 0) = true := by simp [hz0]
      have HQ := Lib.hid (show (decide (0 < z) && Q) = false by simp [hz0])
      clear hz0
      have hr4 := hr2
      have k4 := k2
      obtain ⟨w4, hw4⟩ : ∃ w4, w4 = w2 := ⟨_, rfl⟩
      rw [← hw4] at hr4 k4 c2 c3
      rw [← hw4]
      clear hw4 hr2 hp2 k2
      rw [HQ.out] at HVV
      have c0 := hr4.cell 0
      have c1 := hr4.cell 1
      have f0 := hr4.frozen 0
      have f1 := hr4.frozen 1
      simp at c0 c1
      go_wp2_with fail
      have b2 := (hr4.put 0 (.int .i64 0)).put 1 (.string ⟨#[]⟩)
      have hl : (loadVar 24 ⟨w.heap.size, 0, none⟩).run Tryz.prog ((w4.setCell ⟨w.heap.size, 0, none⟩ (.int .i64 0)).setCell ⟨w.heap.size, 1, none⟩ (.string ⟨#[]⟩)) = .ok (.agg #[.int .i64 0, .string ⟨#[]⟩]) _ :=
        run_var_part (off := 0) b2 (fun j v h => by rw [Nat.zero_add]; exact h) (fun w => by kernel_rfl) (fun w => by kernel_rfl)
      refine ret_cell2 rfl rfl hl rfl rfl ?_
      exact ⟨by rw [HVV.out]; rfl, (k4.setCell (Nat.le_refl _) _).setCell (Nat.le_refl _) _⟩
    · have hzb : ((z : Int) == 0) = false := beq_eq_false_iff_ne.2 (by omega)
      have HQ := Lib.hid (show (decide (0 < z) && Q) = Q by simp; omega)
      rw [HQ.out] at HVV
      clear hz0
      go_wp2_with fail
      refine (HL.out _).mono ?_
      rintro e w4 ⟨rfl, hb4⟩
      have hr4 := hr2.below hb4 hr2.lt
      have hp4 := hp2.below hb4 hp2.lt
      have k4 := k2.trans (hb4.mono k2.size)
      clear c2 c3 hb4 hr2 hp2 k2
      have c2 := hp4.cell 0
      have c3 := hp4.cell 1
      have c0 := hr4.cell 0
      have c1 := hr4.cell 1
      have f0 := hr4.frozen 0
      have f1 := hr4.frozen 1
      simp at c0 c1 c2 c3
      have hQ' := hQ.symm
      clear hQ
      cases Q with
      | false =>
        go_wp2_with fail
        have b2 := (hr4.put 0 (.int .i64 0)).put 1 (.string ⟨#[]⟩)
        have hl : (loadVar 24 ⟨w.heap.size, 0, none⟩).run Tryz.prog ((w4.setCell ⟨w.heap.size, 0, none⟩ (.int .i64 0)).setCell ⟨w.heap.size, 1, none⟩ (.string ⟨#[]⟩)) = .ok (.agg #[.int .i64 0, .string ⟨#[]⟩]) _ :=
          run_var_part (off := 0) b2 (fun j v h => by rw [Nat.zero_add]; exact h) (fun w => by kernel_rfl) (fun w => by kernel_rfl)
        refine ret_cell2 rfl rfl hl rfl rfl ?_
        exact ⟨by rw [HVV.out]; rfl, (k4.setCell (Nat.le_refl _) _).setCell (Nat.le_refl _) _⟩
      | true =>
        go_wp2_with fail
        have b2 := (hr4.put 0 (.int .i64 (x : Int))).put 1 (.string S)
        have hl : (loadVar 24 ⟨w.heap.size, 0, none⟩).run Tryz.prog ((w4.setCell ⟨w.heap.size, 0, none⟩ (.int .i64 (x : Int))).setCell ⟨w.heap.size, 1, none⟩ (.string S)) = .ok (.agg #[.int .i64 (x : Int), .string S]) _ :=
          run_var_part (off := 0) b2 (fun j v h => by rw [Nat.zero_add]; exact h) (fun w => by kernel_rfl) (fun w => by kernel_rfl)
        refine ret_cell2 rfl rfl hl rfl rfl ?_
        exact ⟨by rw [HVV.out]; rfl, (k4.setCell (Nat.le_refl _) _).setCell (Nat.le_refl _) _⟩

theorem refread_any (b : ByteArray) (w : World) :
    Calls Tryz.prog 14 #[.string b] w fun e w' => e = .returned (readV b) ∧ Below w.heap.size w w' := by
  by_cases h : b.size = 33
  · exact refread_long b w h
  · rw [show readV b = _ from if_pos h]
    exact refread_short b w h
end Go.Proofs.YtpliknofjgbfjaaGreatDoor
