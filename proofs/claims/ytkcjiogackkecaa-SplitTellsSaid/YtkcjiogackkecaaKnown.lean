/-
  A region that draws its order, each operation of a known value, stores among them: what is done of memory is told by what is listed. No statement is proved here.
-/
import Derived.Test.YtkcjiogackkecaaSinks
namespace Go.Proofs.Ytkcjiogackkecaa
open Go.RowKit

def putSlots (sl : Nat → Option Nat) (V : Nat → Value) (k : Nat) (t : Array Value) : Array Value := (List.range k).foldl (fun t i => match sl i with | some s => t.setIfInBounds s (V i) | none => t) t
theorem putSlots_succ (sl : Nat → Option Nat) (V : Nat → Value) (k : Nat) (t : Array Value) : putSlots sl V (k + 1) t = match sl k with | some s => (putSlots sl V k t).setIfInBounds s (V k) | none => putSlots sl V k t := by
  unfold putSlots
  rw [List.range_succ, List.foldl_append]
  rfl
theorem putSlots_size (sl : Nat → Option Nat) (V : Nat → Value) (k : Nat) (t : Array Value) : (putSlots sl V k t).size = t.size := by
  induction k with
  | zero => rfl
  | succ k ih =>
    rw [putSlots_succ]
    split
    · rw [Array.size_setIfInBounds]; exact ih
    · exact ih
theorem putSlots_far (sl : Nat → Option Nat) (V : Nat → Value) (k : Nat) (t : Array Value) (s : Nat) (h : ∀ i, i < k → sl i ≠ some s) : (putSlots sl V k t)[s]? = t[s]? := by
  induction k with
  | zero => rfl
  | succ k ih =>
    rw [putSlots_succ]
    split
    · rename_i s' e
      rw [Array.getElem?_setIfInBounds_ne (fun e' => h k (by omega) (by rw [e, e']))]
      exact ih fun i hi => h i (by omega)
    · exact ih fun i hi => h i (by omega)
theorem putSlots_here (sl : Nat → Option Nat) (V : Nat → Value) (k : Nat) (t : Array Value) (hd : ∀ i j s, i < k → j < k → sl i = some s → sl j = some s → i = j) {i s : Nat} (hi : i < k) (hs : sl i = some s) (hlt : s < t.size) : (putSlots sl V k t)[s]? = some (V i) := by
  induction k with
  | zero => omega
  | succ k ih =>
    rw [putSlots_succ]
    by_cases e : i = k
    · subst e
      rw [hs]
      show ((putSlots sl V i t).setIfInBounds s (V i))[s]? = _
      rw [Array.getElem?_setIfInBounds_self, if_pos (by rw [putSlots_size]; exact hlt)]
    · have h1 := ih (fun i j s hi hj => hd i j s (by omega) (by omega)) (by omega)
      split
      · rename_i s' e'
        rw [Array.getElem?_setIfInBounds_ne (fun e2 => e (hd i k s hi (by omega) hs (by rw [e', e2])))]
        exact h1
      · exact h1

theorem wp_region_known {P : Program} {ops : Array Oper} {Q : Exit → Act → World → Prop} (k : Nat) (sl : Nat → Option Nat) (V : Nat → Value) (J : (Nat → Bool) → World → Prop) {id : Nat} {a : Act} {w : World}
    (hm : P.follows .mixedOrders = true) (he : early .any ops = true) (hsz : ops.size = k)
    (hd : ((List.range k).all fun i => (List.range k).all fun j => i == j || sl i == none || sl i != sl j) = true) (hs : ((List.range k).all fun i => match sl i with | some s => decide (s < a.tmps.size) | none => true) = true)
    (h0 : J (fun _ => false) w.drew)
    (hops : ∀ i, i < k → ∀ (L : Nat → Bool) (x : Act) (w' : World), (∀ n, L n = true → ∀ j ∈ waitsFor .any ops n, L j = true) → (∀ s, (∀ i, i < k → sl i ≠ some s) → x.tmps[s]? = a.tmps[s]?) → L i = false → J L w' → (∀ j ∈ waitsFor .any ops i, L j = true) → (∀ j ∈ waitsFor .any ops i, j < k → ∀ s, sl j = some s → x.tmps[s]?.getD undef = V j) → wpOp P ops Q i (fun x' w'' => x' = x.put (sl i) (V i) ∧ J (fun j => if i = j then true else L j) w'') x w')
    (hrest : ∀ (L : Nat → Bool) (w' : World), (∀ j, j < k → L j = true) → J L w' → Q .normal ⟨putSlots sl V k a.tmps, a.defers⟩ w') : (Code.region id ops true).wp P Q a w := by
  have hd' : ∀ i j s, i < k → j < k → sl i = some s → sl j = some s → i = j := by
    intro i j s hi hj h1 h2
    have := List.all_eq_true.1 (List.all_eq_true.1 hd i (List.mem_range.2 hi)) j (List.mem_range.2 hj)
    rw [h1, h2] at this
    simpa using this
  have hs' : ∀ i s, i < k → sl i = some s → s < a.tmps.size := by
    intro i s hi h1
    have := List.all_eq_true.1 hs i (List.mem_range.2 hi)
    rw [h1] at this
    simpa using this
  refine wp_region_kept (fun L x w => (∀ i, L i = true → ∀ j ∈ waitsFor .any ops i, L j = true) ∧ x.defers = a.defers ∧ x.tmps.size = a.tmps.size ∧ (∀ s, (∀ i, i < k → sl i ≠ some s) → x.tmps[s]? = a.tmps[s]?) ∧ (∀ i s, i < k → L i = true → sl i = some s → x.tmps[s]? = some (V i)) ∧ J L w) hm he ?_ ?_ ?_
  · exact ⟨(fun _ h => by cases h), rfl, rfl, fun _ _ => rfl, (fun _ _ _ h => by cases h), h0⟩
  · intro L x w' i ⟨hc, h1, h2, h3, h4, hJ⟩ hi hLi hw
    rw [hsz] at hi
    refine wpOp_mono (fun x' w'' h => ?_) (hops i hi L x w' hc h3 hLi hJ hw (fun j hj hjk s hs => by rw [h4 j s hjk (hw j hj) hs]; rfl))
    obtain ⟨rfl, hj'⟩ := h
    refine ⟨fun n hn j hj => ?_, ?_, ?_, fun s hno => ?_, fun n s hn hL hs => ?_, hj'⟩
    · by_cases hij : i = j
      · simp [hij]
      · simp only [if_neg hij]
        by_cases hin : i = n
        · subst hin; exact hw j hj
        · simp only [if_neg hin] at hn
          exact hc n hn j hj
    · cases sl i <;> exact h1
    · cases hsl : sl i with
      | none => exact h2
      | some s => show (x.tmps.setIfInBounds s (V i)).size = _; rw [Array.size_setIfInBounds]; exact h2
    · cases hsl : sl i with
      | none => exact h3 s hno
      | some s' =>
        show (x.tmps.setIfInBounds s' (V i))[s]? = _
        rw [Array.getElem?_setIfInBounds_ne (fun e => hno i hi (by rw [hsl, e]))]
        exact h3 s hno
    · by_cases e : i = n
      · subst e
        rw [hs]
        show (x.tmps.setIfInBounds s (V i))[s]? = _
        rw [Array.getElem?_setIfInBounds_self, if_pos (by rw [h2]; exact hs' i s hi hs)]
      · simp only [if_neg e] at hL
        cases hsl : sl i with
        | none => exact h4 n s hn hL hs
        | some s' =>
          show (x.tmps.setIfInBounds s' (V i))[s]? = _
          rw [Array.getElem?_setIfInBounds_ne (fun e2 => e (hd' i n s hi hn (by rw [hsl, e2]) hs))]
          exact h4 n s hn hL hs
  · intro L x w' ⟨_, h1, h2, h3, h4, hJ⟩ hall
    rw [hsz] at hall
    have hr := hrest L w' hall hJ
    have hx : x = ⟨putSlots sl V k a.tmps, a.defers⟩ := by
      obtain ⟨X, D⟩ := x
      obtain rfl : D = a.defers := h1
      congr 1
      apply Array.ext_getElem?
      intro s
      by_cases hex : ∃ i, i < k ∧ sl i = some s
      · obtain ⟨i, hi, hsl⟩ := hex
        rw [putSlots_here sl V k a.tmps hd' hi hsl (hs' i s hi hsl)]
        exact h4 i s hi (hall i hi) hsl
      · have hno : ∀ i, i < k → sl i ≠ some s := fun i hi e => hex ⟨i, hi, e⟩
        rw [putSlots_far _ _ _ _ _ hno]
        exact h3 s hno
    rw [hx]
    exact hr
/-- The same, of values that are not known ahead: J speaks of them. -/
theorem wp_region_free {P : Program} {ops : Array Oper} {Q : Exit → Act → World → Prop} (k : Nat) (sl : Nat → Option Nat) (J : (Nat → Bool) → (Nat → Value) → World → Prop) {id : Nat} {a : Act} {w : World}
    (hm : P.follows .mixedOrders = true) (he : early .any ops = true) (hsz : ops.size = k)
    (hd : ((List.range k).all fun i => (List.range k).all fun j => i == j || sl i == none || sl i != sl j) = true) (hs : ((List.range k).all fun i => match sl i with | some s => decide (s < a.tmps.size) | none => true) = true)
    (h0 : J (fun _ => false) (fun _ => undef) w.drew)
    (hops : ∀ i, i < k → ∀ (L : Nat → Bool) (f : Nat → Value) (x : Act) (w' : World), (∀ n, L n = true → ∀ j ∈ waitsFor .any ops n, L j = true) → (∀ s, (∀ i, i < k → sl i ≠ some s) → x.tmps[s]? = a.tmps[s]?) → L i = false → J L f w' → (∀ j ∈ waitsFor .any ops i, L j = true) → (∀ j s, j < k → L j = true → sl j = some s → x.tmps[s]?.getD undef = f j) → wpOp P ops Q i (fun x' w'' => ∃ v, x' = x.put (sl i) v ∧ J (fun j => if i = j then true else L j) (fun j => if i = j then v else f j) w'') x w')
    (hrest : ∀ (L : Nat → Bool) (f : Nat → Value) (w' : World), (∀ j, j < k → L j = true) → J L f w' → Q .normal ⟨putSlots sl f k a.tmps, a.defers⟩ w') : (Code.region id ops true).wp P Q a w := by
  have hd' : ∀ i j s, i < k → j < k → sl i = some s → sl j = some s → i = j := by
    intro i j s hi hj h1 h2
    have := List.all_eq_true.1 (List.all_eq_true.1 hd i (List.mem_range.2 hi)) j (List.mem_range.2 hj)
    rw [h1, h2] at this
    simpa using this
  have hs' : ∀ i s, i < k → sl i = some s → s < a.tmps.size := by
    intro i s hi h1
    have := List.all_eq_true.1 hs i (List.mem_range.2 hi)
    rw [h1] at this
    simpa using this
  refine wp_region_kept (fun L x w => (∀ i, L i = true → ∀ j ∈ waitsFor .any ops i, L j = true) ∧ x.defers = a.defers ∧ x.tmps.size = a.tmps.size ∧ (∀ s, (∀ i, i < k → sl i ≠ some s) → x.tmps[s]? = a.tmps[s]?) ∧ ∃ f, (∀ i s, i < k → L i = true → sl i = some s → x.tmps[s]? = some (f i)) ∧ J L f w) hm he ?_ ?_ ?_
  · exact ⟨(fun _ h => by cases h), rfl, rfl, fun _ _ => rfl, _, (fun _ _ _ h => by cases h), h0⟩
  · intro L x w' i ⟨hc, h1, h2, h3, f, h4, hJ⟩ hi hLi hw
    rw [hsz] at hi
    refine wpOp_mono (fun x' w'' h => ?_) (hops i hi L f x w' hc h3 hLi hJ hw (fun j s hjk hL hs => by rw [h4 j s hjk hL hs]; rfl))
    obtain ⟨v, rfl, hj'⟩ := h
    refine ⟨fun n hn j hj => ?_, ?_, ?_, fun s hno => ?_, _, fun n s hn hL hs => ?_, hj'⟩
    · by_cases hij : i = j
      · simp [hij]
      · simp only [if_neg hij]
        by_cases hin : i = n
        · subst hin; exact hw j hj
        · simp only [if_neg hin] at hn
          exact hc n hn j hj
    · cases sl i <;> exact h1
    · cases hsl : sl i with
      | none => exact h2
      | some s => show (x.tmps.setIfInBounds s v).size = _; rw [Array.size_setIfInBounds]; exact h2
    · cases hsl : sl i with
      | none => exact h3 s hno
      | some s' =>
        show (x.tmps.setIfInBounds s' v)[s]? = _
        rw [Array.getElem?_setIfInBounds_ne (fun e => hno i hi (by rw [hsl, e]))]
        exact h3 s hno
    · by_cases e : i = n
      · subst e
        rw [hs]
        show (x.tmps.setIfInBounds s v)[s]? = _
        rw [Array.getElem?_setIfInBounds_self, if_pos (by rw [h2]; exact hs' i s hi hs), if_pos rfl]
      · simp only [if_neg e] at hL ⊢
        cases hsl : sl i with
        | none => exact h4 n s hn hL hs
        | some s' =>
          show (x.tmps.setIfInBounds s' v)[s]? = _
          rw [Array.getElem?_setIfInBounds_ne (fun e2 => e (hd' i n s hi hn (by rw [hsl, e2]) hs))]
          exact h4 n s hn hL hs
  · intro L x w' ⟨_, h1, h2, h3, f, h4, hJ⟩ hall
    rw [hsz] at hall
    have hr := hrest L f w' hall hJ
    have hx : x = ⟨putSlots sl f k a.tmps, a.defers⟩ := by
      obtain ⟨X, D⟩ := x
      obtain rfl : D = a.defers := h1
      congr 1
      apply Array.ext_getElem?
      intro s
      by_cases hex : ∃ i, i < k ∧ sl i = some s
      · obtain ⟨i, hi, hsl⟩ := hex
        rw [putSlots_here sl f k a.tmps hd' hi hsl (hs' i s hi hsl)]
        exact h4 i s hi (hall i hi) hsl
      · have hno : ∀ i, i < k → sl i ≠ some s := fun i hi e => hex ⟨i, hi, e⟩
        rw [putSlots_far _ _ _ _ _ hno]
        exact h3 s hno
    rw [hx]
    exact hr
end Go.Proofs.Ytkcjiogackkecaa
