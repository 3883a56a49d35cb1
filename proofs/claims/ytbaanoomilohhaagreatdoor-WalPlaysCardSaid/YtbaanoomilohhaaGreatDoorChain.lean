/-
  A region that draws its order, some of whose operations are one chain that writes a block of its own: a writer that is made, filled and asked. What each operation leaves is a property of its value and of memory; the others, in whatever order they come, don't touch it. No statement is proved here.
-/
import Derived.Test.YtbaanoomilohhaaGreatDoorKept
namespace Go.Proofs.YtbaanoomilohhaaGreatDoor
open Go.RowKit

/-- Only blocks of type T were written; what came is new. -/
structure GrownT (T : TypeId) (w w' : World) : Prop where
  block : ∀ (k : Nat) (t : TypeId) (cs : Array Value) (fr : Nat × Nat), w.heap[k]? = some (.cells cs t fr) → t ≠ T → w'.heap[k]? = some (.cells cs t fr)
theorem GrownT.of_none {T : TypeId} {w w' : World} (h : w.grownBy w' none) : GrownT T w w' :=
  ⟨fun k t cs fr hk _ => by
    have hlt : k < w.heap.size := by
      rcases Nat.lt_or_ge k w.heap.size with h1 | h1
      · exact h1
      · rw [Array.getElem?_eq_none h1] at hk; cases hk
    rw [h.block k hlt (by simp)]
    exact hk⟩
theorem GrownT.of_by {T : TypeId} {w w' : World} {g : Nat} {cs : Array Value} (h : w.grownBy w' (some g)) (hb : Blk w g T cs) : GrownT T w w' :=
  ⟨fun k t c fr hk ht => by
    have hlt : k < w.heap.size := by
      rcases Nat.lt_or_ge k w.heap.size with h1 | h1
      · exact h1
      · rw [Array.getElem?_eq_none h1] at hk; cases hk
    rw [h.block k hlt (fun e => ?_)]
    · exact hk
    · have e : k = g := by simpa using e
      subst e
      unfold Blk at hb
      rw [hk] at hb
      injection hb with hb
      injection hb with _ h2 _
      exact ht h2⟩
theorem Blk.grownT {T : TypeId} {w w' : World} {b : Nat} {t : TypeId} {cs : Array Value} (h : Blk w b t cs) (hg : GrownT T w w') (ht : t ≠ T) : Blk w' b t cs := hg.block b t cs (0, 0) h ht

/-- All slots but those that the region writes are as they were. -/
def FrameD (a : Act) (n : Nat) (D : Nat → Option Nat) (x : Act) : Prop := x.defers = a.defers ∧ x.tmps.size = a.tmps.size ∧ ∀ s, (∀ i, i < n → D i ≠ some s) → x.tmps[s]? = a.tmps[s]?
/-- What stands in a slot; of no slot nothing. -/
def slotOf (x : Act) : Option Nat → Value
  | some s => x.tmps[s]?.getD undef
  | none => undef

theorem wp_region_chain_v {P : Program} {ops : Array Oper} {Q : Exit → Act → World → Prop} {id : Nat} {a : Act} {w : World} (T : TypeId) (k : Nat) (D : Nat → Option Nat) (N : Nat) (ci : Nat → Nat) (F : Nat → Value → World → Prop) (Ch : Nat → Value → World → Prop)
    (hm : P.follows .mixedOrders = true) (he : early .any ops = true) (hk : ops.size = k)
    (hinj : ∀ i j s, i < k → j < k → D i = some s → D j = some s → i = j) (hlt : ∀ i s, i < k → D i = some s → s < a.tmps.size)
    (hci : ∀ n, n < N → ci n < k) (hcinj : ∀ n m, n < N → m < N → ci n = ci m → n = m) (hcw : ∀ n, n + 1 < N → ci n ∈ waitsFor .any ops (ci (n + 1)))
    (hF : ∀ i v w w', F i v w → GrownT T w w' → F i v w') (hC : ∀ n v w w', Ch n v w → w.grownBy w' none → Ch n v w') (h0 : Ch 0 undef w.drew)
    (hloose : ∀ i, i < k → (∀ n, n < N → ci n ≠ i) → ∀ (x : Act) (w' : World), FrameD a k D x → (∀ j ∈ waitsFor .any ops i, F j (slotOf x (D j)) w') → (∃ n v, n ≤ N ∧ Ch n v w') → wpOp P ops Q i (fun x' w'' => ∃ v, x' = x.put (D i) v ∧ (D i = none → v = undef) ∧ w'.grownBy w'' none ∧ F i v w'') x w')
    (hchain : ∀ n, n < N → ∀ (x : Act) (w' : World), FrameD a k D x → (∀ j ∈ waitsFor .any ops (ci n), F j (slotOf x (D j)) w') → Ch n (if n = 0 then undef else slotOf x (D (ci (n - 1)))) w' → wpOp P ops Q (ci n) (fun x' w'' => ∃ v, x' = x.put (D (ci n)) v ∧ (D (ci n) = none → v = undef) ∧ GrownT T w' w'' ∧ Ch (n + 1) v w'' ∧ F (ci n) v w'') x w')
    (hK : ∀ (x : Act) (w' : World), FrameD a k D x → (∀ i, i < k → F i (slotOf x (D i)) w') → Ch N (if N = 0 then undef else slotOf x (D (ci (N - 1)))) w' → Q .normal x w') : (Code.region id ops true).wp P Q a w := by
  subst hk
  have key : ∀ (x : Act) (i j : Nat) (v : Value), i < ops.size → j < ops.size → i ≠ j → slotOf (x.put (D i) v) (D j) = slotOf x (D j) := by
    intro x i j v hi hj hij
    cases h1 : D i with
    | none => rfl
    | some s =>
      cases h2 : D j with
      | none => rfl
      | some t => exact put_there x s t v (fun e => hij (hinj i j s hi hj h1 (by rw [h2, e])))
  have here : ∀ (x : Act) (i : Nat) (v : Value), i < ops.size → FrameD a ops.size D x → (D i = none → v = undef) → slotOf (x.put (D i) v) (D i) = v := by
    intro x i v hi hf hn
    cases h1 : D i with
    | none => rw [hn h1]; rfl
    | some s => exact put_here x s v (by rw [hf.2.1]; exact hlt i s hi h1)
  have fput : ∀ (x : Act) (i : Nat) (v : Value), i < ops.size → FrameD a ops.size D x → FrameD a ops.size D (x.put (D i) v) := by
    intro x i v hi ⟨h1, h2, h3⟩
    cases h4 : D i with
    | none => exact ⟨h1, h2, h3⟩
    | some t =>
      refine ⟨h1, by simp [Act.put, h2], fun s hs => ?_⟩
      rw [← h3 s hs]
      simp only [Act.put]
      exact Array.getElem?_setIfInBounds_ne (fun e => hs i hi (by rw [h4, e]))
  refine wp_region_kept (fun L x w => FrameD a ops.size D x ∧ (∀ i, i < ops.size → L i = true → F i (slotOf x (D i)) w) ∧ ∃ n, n ≤ N ∧ (∀ m, m < N → (L (ci m) = true ↔ m < n)) ∧ Ch n (if n = 0 then undef else slotOf x (D (ci (n - 1)))) w) hm he ?_ ?_ ?_
  · exact ⟨⟨rfl, rfl, fun _ _ => rfl⟩, fun _ _ h => (by cases h), 0, Nat.zero_le _, fun m _ => by simp, h0⟩
  · intro L x w' i ⟨hf, hv, n, hn, hL, hch⟩ hi hLi hw
    have hww : ∀ j ∈ waitsFor .any ops i, F j (slotOf x (D j)) w' := fun j hj => by
      have hlt := List.all_eq_true.1 (List.all_eq_true.1 he i (List.mem_range.2 hi)) j hj
      have : j < i := by simpa using hlt
      exact hv j (by omega) (hw j hj)
    by_cases hic : ∃ m, m < N ∧ ci m = i
    · obtain ⟨m, hmN, rfl⟩ := hic
      have hnm : n = m := by
        have h1 : ¬ m < n := fun h => by rw [(hL m hmN).2 h] at hLi; cases hLi
        rcases Nat.lt_or_ge n m with h2 | h2
        · have h3 := hcw (m - 1) (by omega)
          rw [show m - 1 + 1 = m by omega] at h3
          have := (hL (m - 1) (by omega)).1 (hw _ h3)
          omega
        · omega
      subst hnm
      refine wpOp_mono (fun x' w'' h => ?_) (hchain n hmN x w' hf hww hch)
      obtain ⟨v, rfl, hnn, hg, hch', hfv⟩ := h
      refine ⟨fput x _ v hi hf, fun j hj hLj => ?_, n + 1, hmN, fun m hm' => ?_, ?_⟩
      · by_cases hij : ci n = j
        · subst hij
          rw [here x _ v hj hf hnn]
          exact hfv
        · simp only [if_neg hij] at hLj
          rw [key x _ j v hi hj hij]
          exact hF j _ _ _ (hv j hj hLj) hg
      · by_cases hmn : m = n
        · subst hmn; simp
        · have : ci n ≠ ci m := fun e => hmn (hcinj m n hm' hmN e.symm)
          simp only [if_neg this]
          rw [hL m hm']
          omega
      · rw [if_neg (by omega), show n + 1 - 1 = n by omega, here x _ v hi hf hnn]
        exact hch'
    · have hic' : ∀ m, m < N → ci m ≠ i := fun m hm e => hic ⟨m, hm, e⟩
      refine wpOp_mono (fun x' w'' h => ?_) (hloose i hi hic' x w' hf hww ⟨n, _, hn, hch⟩)
      obtain ⟨v, rfl, hnn, hg, hfv⟩ := h
      refine ⟨fput x _ v hi hf, fun j hj hLj => ?_, n, hn, fun m hm' => ?_, ?_⟩
      · by_cases hij : i = j
        · subst hij
          rw [here x _ v hj hf hnn]
          exact hfv
        · simp only [if_neg hij] at hLj
          rw [key x _ j v hi hj hij]
          exact hF j _ _ _ (hv j hj hLj) (GrownT.of_none hg)
      · have : i ≠ ci m := fun e => hic' m hm' e.symm
        simp only [if_neg this]
        exact hL m hm'
      · by_cases hn0 : n = 0
        · rw [if_pos hn0] at hch ⊢
          exact hC _ _ _ _ hch hg
        · rw [if_neg hn0] at hch ⊢
          rw [key x i _ v hi (hci _ (by omega)) (fun e => hic' (n - 1) (by omega) e.symm)]
          exact hC _ _ _ _ hch hg
  · intro L x w' ⟨hf, hv, n, hn, hL, hch⟩ hall
    have hnN : n = N := by
      rcases Nat.lt_or_ge n N with h | h
      · have := (hL n h).1 (hall _ (hci n h)); omega
      · omega
    subst hnN
    exact hK x w' hf (fun i hi => hv i hi (hall i hi)) hch
theorem wp_region_chain {P : Program} {ops : Array Oper} {Q : Exit → Act → World → Prop} {id : Nat} {a : Act} {w : World} (T : TypeId) (k : Nat) (D : Nat → Option Nat) (N : Nat) (ci : Nat → Nat) (F : Nat → Value → World → Prop) (Ch : Nat → Value → World → Prop)
    (hm : P.follows .mixedOrders = true) (he : early .any ops = true) (hk : ops.size = k)
    (hinj : ∀ i j s, i < k → j < k → D i = some s → D j = some s → i = j) (hlt : ∀ i s, i < k → D i = some s → s < a.tmps.size)
    (hci : ∀ n, n < N → ci n < k) (hcinj : ∀ n m, n < N → m < N → ci n = ci m → n = m) (hcw : ∀ n, n + 1 < N → ci n ∈ waitsFor .any ops (ci (n + 1)))
    (hF : ∀ i v w w', F i v w → GrownT T w w' → F i v w') (hC : ∀ n v w w', Ch n v w → w.grownBy w' none → Ch n v w') (h0 : Ch 0 undef w.drew)
    (hloose : ∀ i, i < k → (∀ n, n < N → ci n ≠ i) → ∀ (x : Act) (w' : World), FrameD a k D x → (∀ j ∈ waitsFor .any ops i, F j (slotOf x (D j)) w') → (∃ n v, n ≤ N ∧ Ch n v w') → wpOp P ops Q i (fun x' w'' => ∃ v, x' = x.put (D i) v ∧ (D i = none → v = undef) ∧ w'.grownBy w'' none ∧ F i v w'') x w')
    (hchain : ∀ n, n < N → ∀ (x : Act) (w' : World), FrameD a k D x → (∀ j ∈ waitsFor .any ops (ci n), F j (slotOf x (D j)) w') → Ch n (if n = 0 then undef else slotOf x (D (ci (n - 1)))) w' → wpOp P ops Q (ci n) (fun x' w'' => ∃ v, x' = x.put (D (ci n)) v ∧ (D (ci n) = none → v = undef) ∧ GrownT T w' w'' ∧ Ch (n + 1) v w'' ∧ F (ci n) v w'') x w')
    (hK : ∀ (x : Act) (w' : World), FrameD a k D x → (∀ i, i < k → F i (slotOf x (D i)) w') → (∃ v, Ch N v w') → Q .normal x w') : (Code.region id ops true).wp P Q a w :=
  wp_region_chain_v T k D N ci F Ch hm he hk hinj hlt hci hcinj hcw hF hC h0 hloose hchain (fun x w' h1 h2 h3 => hK x w' h1 h2 ⟨_, h3⟩)
/-- The two closed facts on the slots, from lists. -/
theorem slots_inj {l : List Nat} (h : l.Nodup) (i j s : Nat) (h1 : l[i]? = some s) (h2 : l[j]? = some s) : i = j := by
  have hi : i < l.length := by
    rcases Nat.lt_or_ge i l.length with h' | h'
    · exact h'
    · rw [List.getElem?_eq_none h'] at h1; cases h1
  exact (List.getElem?_inj hi h).1 (h1.trans h2.symm)
end Go.Proofs.YtbaanoomilohhaaGreatDoor
