/-
  WalPlays on its way: the disk, the Wal upon it, and the home that the law keeps. No statement is proved here.
-/
import Derived.Test.YtiagofgcinlnhaaGreatDoorWalPure
import Derived.Test.YtiagofgcinlnhaaGreatDoorBookAt
import Derived.Test.YtiagofgcinlnhaaGreatDoorPutPure
import Derived.Test.YtiagofgcinlnhaaGreatDoorWalGo
import Derived.Test.YtiagofgcinlnhaaGreatDoorWalArrange
namespace Go.Proofs.YtiagofgcinlnhaaGreatDoor
open Go.RowKit
def putSlots (sl : Nat → Option Nat) (V : Nat → Value) (k : Nat) (t : Array Value) : Array Value := (List.range k).foldl (fun t i => match sl i with | some s => t.setIfInBounds s (V i) | none => t) t
theorem putSlots_succ (sl : Nat → Option Nat) (V : Nat → Value) (k : Nat) (t : Array Value) : putSlots sl V (k + 1) t = match sl k with | some s => (putSlots sl V k t).setIfInBounds s (V k) | none => putSlots sl V k t := by
  unfold putSlots
  rw [List.range_succ, List.foldl_append]
  rfl
theorem putSlots_size (sl : Nat → Option Nat) (V : Nat → Value) (k : Nat) (t : Array Value) : (putSlots sl V k t).size = t.size := by
  induction k with
  | zero => rfl
  | succ k ih =>
    rw [putSlots_succ]
    split
    · rw [Array.size_setIfInBounds]; exact ih
    · exact ih
theorem putSlots_far (sl : Nat → Option Nat) (V : Nat → Value) (k : Nat) (t : Array Value) (s : Nat) (h : ∀ i, i < k → sl i ≠ some s) : (putSlots sl V k t)[s]? = t[s]? := by
  induction k with
  | zero => rfl
  | succ k ih =>
    rw [putSlots_succ]
    split
    · rename_i s' e
      rw [Array.getElem?_setIfInBounds_ne (fun e' => h k (by omega) (by rw [e, e']))]
      exact ih fun i hi => h i (by omega)
    · exact ih fun i hi => h i (by omega)
theorem putSlots_here (sl : Nat → Option Nat) (V : Nat → Value) (k : Nat) (t : Array Value) (hd : ∀ i j s, i < k → j < k → sl i = some s → sl j = some s → i = j) {i s : Nat} (hi : i < k) (hs : sl i = some s) (hlt : s < t.size) : (putSlots sl V k t)[s]? = some (V i) := by
  induction k with
  | zero => omega
  | succ k ih =>
    rw [putSlots_succ]
    by_cases e : i = k
    · subst e
      rw [hs]
      show ((putSlots sl V i t).setIfInBounds s (V i))[s]? = _
      rw [Array.getElem?_setIfInBounds_self, if_pos (by rw [putSlots_size]; exact hlt)]
    · have h1 := ih (fun i j s hi hj => hd i j s (by omega) (by omega)) (by omega)
      split
      · rename_i s' e'
        rw [Array.getElem?_setIfInBounds_ne (fun e2 => e (hd i k s hi (by omega) hs (by rw [e', e2])))]
        exact h1
      · exact h1
theorem wp_region_known {P : Program} {ops : Array Oper} {Q : Exit → Act → World → Prop} (k : Nat) (sl : Nat → Option Nat) (V : Nat → Value) (J : (Nat → Bool) → World → Prop) {id : Nat} {a : Act} {w : World}
    (hm : P.follows .mixedOrders = true) (he : early .any ops = true) (hsz : ops.size = k)
    (hd : ((List.range k).all fun i => (List.range k).all fun j => i == j || sl i == none || sl i != sl j) = true) (hs : ((List.range k).all fun i => match sl i with | some s => decide (s < a.tmps.size) | none => true) = true)
    (h0 : J (fun _ => false) w.drew)
    (hops : ∀ i, i < k → ∀ (L : Nat → Bool) (x : Act) (w' : World), (∀ n, L n = true → ∀ j ∈ waitsFor .any ops n, L j = true) → (∀ s, (∀ i, i < k → sl i ≠ some s) → x.tmps[s]? = a.tmps[s]?) → L i = false → J L w' → (∀ j ∈ waitsFor .any ops i, L j = true) → (∀ j ∈ waitsFor .any ops i, j < k → ∀ s, sl j = some s → x.tmps[s]?.getD undef = V j) → wpOp P ops Q i (fun x' w'' => x' = x.put (sl i) (V i) ∧ J (fun j => if i = j then true else L j) w'') x w')
    (hrest : ∀ (L : Nat → Bool) (w' : World), (∀ j, j < k → L j = true) → J L w' → Q .normal ⟨putSlots sl V k a.tmps, a.defers⟩ w') : (Code.region id ops true).wp P Q a w := by
  have hd' : ∀ i j s, i < k → j < k → sl i = some s → sl j = some s → i = j := by
    intro i j s hi hj h1 h2
    have := List.all_eq_true.1 (List.all_eq_true.1 hd i (List.mem_range.2 hi)) j (List.mem_range.2 hj)
    rw [h1, h2] at this
    simpa using this
  have hs' : ∀ i s, i < k → sl i = some s → s < a.tmps.size := by
    intro i s hi h1
    have := List.all_eq_true.1 hs i (List.mem_range.2 hi)
    rw [h1] at this
    simpa using this
  refine wp_region_kept (fun L x w => (∀ i, L i = true → ∀ j ∈ waitsFor .any ops i, L j = true) ∧ x.defers = a.defers ∧ x.tmps.size = a.tmps.size ∧ (∀ s, (∀ i, i < k → sl i ≠ some s) → x.tmps[s]? = a.tmps[s]?) ∧ (∀ i s, i < k → L i = true → sl i = some s → x.tmps[s]? = some (V i)) ∧ J L w) hm he ?_ ?_ ?_
  · exact ⟨(fun _ h => by cases h), rfl, rfl, fun _ _ => rfl, (fun _ _ _ h => by cases h), h0⟩
  · intro L x w' i ⟨hc, h1, h2, h3, h4, hJ⟩ hi hLi hw
    rw [hsz] at hi
    refine wpOp_mono (fun x' w'' h => ?_) (hops i hi L x w' hc h3 hLi hJ hw (fun j hj hjk s hs => by rw [h4 j s hjk (hw j hj) hs]; rfl))
    obtain ⟨rfl, hj'⟩ := h
    refine ⟨fun n hn j hj => ?_, ?_, ?_, fun s hno => ?_, fun n s hn hL hs => ?_, hj'⟩
    · by_cases hij : i = j
      · simp [hij]
      · simp only [if_neg hij]
        by_cases hin : i = n
        · subst hin; exact hw j hj
        · simp only [if_neg hin] at hn
          exact hc n hn j hj
    · cases sl i <;> exact h1
    · cases hsl : sl i with
      | none => exact h2
      | some s => show (x.tmps.setIfInBounds s (V i)).size = _; rw [Array.size_setIfInBounds]; exact h2
    · cases hsl : sl i with
      | none => exact h3 s hno
      | some s' =>
        show (x.tmps.setIfInBounds s' (V i))[s]? = _
        rw [Array.getElem?_setIfInBounds_ne (fun e => hno i hi (by rw [hsl, e]))]
        exact h3 s hno
    · by_cases e : i = n
      · subst e
        rw [hs]
        show (x.tmps.setIfInBounds s (V i))[s]? = _
        rw [Array.getElem?_setIfInBounds_self, if_pos (by rw [h2]; exact hs' i s hi hs)]
      · simp only [if_neg e] at hL
        cases hsl : sl i with
        | none => exact h4 n s hn hL hs
        | some s' =>
          show (x.tmps.setIfInBounds s' (V i))[s]? = _
          rw [Array.getElem?_setIfInBounds_ne (fun e2 => e (hd' i n s hi hn (by rw [hsl, e2]) hs))]
          exact h4 n s hn hL hs
  · intro L x w' ⟨_, h1, h2, h3, h4, hJ⟩ hall
    rw [hsz] at hall
    have hr := hrest L w' hall hJ
    have hx : x = ⟨putSlots sl V k a.tmps, a.defers⟩ := by
      obtain ⟨X, D⟩ := x
      obtain rfl : D = a.defers := h1
      congr 1
      apply Array.ext_getElem?
      intro s
      by_cases hex : ∃ i, i < k ∧ sl i = some s
      · obtain ⟨i, hi, hsl⟩ := hex
        rw [putSlots_here sl V k a.tmps hd' hi hsl (hs' i s hi hsl)]
        exact h4 i s hi (hall i hi) hsl
      · have hno : ∀ i, i < k → sl i ≠ some s := fun i hi e => hex ⟨i, hi, e⟩
        rw [putSlots_far _ _ _ _ _ hno]
        exact h3 s hno
    rw [hx]
    exact hr
theorem wp_region_free {P : Program} {ops : Array Oper} {Q : Exit → Act → World → Prop} (k : Nat) (sl : Nat → Option Nat) (J : (Nat → Bool) → (Nat → Value) → World → Prop) {id : Nat} {a : Act} {w : World}
    (hm : P.follows .mixedOrders = true) (he : early .any ops = true) (hsz : ops.size = k)
    (hd : ((List.range k).all fun i => (List.range k).all fun j => i == j || sl i == none || sl i != sl j) = true) (hs : ((List.range k).all fun i => match sl i with | some s => decide (s < a.tmps.size) | none => true) = true)
    (h0 : J (fun _ => false) (fun _ => undef) w.drew)
    (hops : ∀ i, i < k → ∀ (L : Nat → Bool) (f : Nat → Value) (x : Act) (w' : World), (∀ n, L n = true → ∀ j ∈ waitsFor .any ops n, L j = true) → (∀ s, (∀ i, i < k → sl i ≠ some s) → x.tmps[s]? = a.tmps[s]?) → L i = false → J L f w' → (∀ j ∈ waitsFor .any ops i, L j = true) → (∀ j s, j < k → L j = true → sl j = some s → x.tmps[s]?.getD undef = f j) → wpOp P ops Q i (fun x' w'' => ∃ v, x' = x.put (sl i) v ∧ J (fun j => if i = j then true else L j) (fun j => if i = j then v else f j) w'') x w')
    (hrest : ∀ (L : Nat → Bool) (f : Nat → Value) (w' : World), (∀ j, j < k → L j = true) → J L f w' → Q .normal ⟨putSlots sl f k a.tmps, a.defers⟩ w') : (Code.region id ops true).wp P Q a w := by
  have hd' : ∀ i j s, i < k → j < k → sl i = some s → sl j = some s → i = j := by
    intro i j s hi hj h1 h2
    have := List.all_eq_true.1 (List.all_eq_true.1 hd i (List.mem_range.2 hi)) j (List.mem_range.2 hj)
    rw [h1, h2] at this
    simpa using this
  have hs' : ∀ i s, i < k → sl i = some s → s < a.tmps.size := by
    intro i s hi h1
    have := List.all_eq_true.1 hs i (List.mem_range.2 hi)
    rw [h1] at this
    simpa using this
  refine wp_region_kept (fun L x w => (∀ i, L i = true → ∀ j ∈ waitsFor .any ops i, L j = true) ∧ x.defers = a.defers ∧ x.tmps.size = a.tmps.size ∧ (∀ s, (∀ i, i < k → sl i ≠ some s) → x.tmps[s]? = a.tmps[s]?) ∧ ∃ f, (∀ i s, i < k → L i = true → sl i = some s → x.tmps[s]? = some (f i)) ∧ J L f w) hm he ?_ ?_ ?_
  · exact ⟨(fun _ h => by cases h), rfl, rfl, fun _ _ => rfl, _, (fun _ _ _ h => by cases h), h0⟩
  · intro L x w' i ⟨hc, h1, h2, h3, f, h4, hJ⟩ hi hLi hw
    rw [hsz] at hi
    refine wpOp_mono (fun x' w'' h => ?_) (hops i hi L f x w' hc h3 hLi hJ hw (fun j s hjk hL hs => by rw [h4 j s hjk hL hs]; rfl))
    obtain ⟨v, rfl, hj'⟩ := h
    refine ⟨fun n hn j hj => ?_, ?_, ?_, fun s hno => ?_, _, fun n s hn hL hs => ?_, hj'⟩
    · by_cases hij : i = j
      · simp [hij]
      · simp only [if_neg hij]
        by_cases hin : i = n
        · subst hin; exact hw j hj
        · simp only [if_neg hin] at hn
          exact hc n hn j hj
    · cases sl i <;> exact h1
    · cases hsl : sl i with
      | none => exact h2
      | some s => show (x.tmps.setIfInBounds s v).size = _; rw [Array.size_setIfInBounds]; exact h2
    · cases hsl : sl i with
      | none => exact h3 s hno
      | some s' =>
        show (x.tmps.setIfInBounds s' v)[s]? = _
        rw [Array.getElem?_setIfInBounds_ne (fun e => hno i hi (by rw [hsl, e]))]
        exact h3 s hno
    · by_cases e : i = n
      · subst e
        rw [hs]
        show (x.tmps.setIfInBounds s v)[s]? = _
        rw [Array.getElem?_setIfInBounds_self, if_pos (by rw [h2]; exact hs' i s hi hs), if_pos rfl]
      · simp only [if_neg e] at hL ⊢
        cases hsl : sl i with
        | none => exact h4 n s hn hL hs
        | some s' =>
          show (x.tmps.setIfInBounds s' v)[s]? = _
          rw [Array.getElem?_setIfInBounds_ne (fun e2 => e (hd' i n s hi hn (by rw [hsl, e2]) hs))]
          exact h4 n s hn hL hs
  · intro L x w' ⟨_, h1, h2, h3, f, h4, hJ⟩ hall
    rw [hsz] at hall
    have hr := hrest L f w' hall hJ
    have hx : x = ⟨putSlots sl f k a.tmps, a.defers⟩ := by
      obtain ⟨X, D⟩ := x
      obtain rfl : D = a.defers := h1
      congr 1
      apply Array.ext_getElem?
      intro s
      by_cases hex : ∃ i, i < k ∧ sl i = some s
      · obtain ⟨i, hi, hsl⟩ := hex
        rw [putSlots_here sl f k a.tmps hd' hi hsl (hs' i s hi hsl)]
        exact h4 i s hi (hall i hi) hsl
      · have hno : ∀ i, i < k → sl i ≠ some s := fun i hi e => hex ⟨i, hi, e⟩
        rw [putSlots_far _ _ _ _ _ hno]
        exact h3 s hno
    rw [hx]
    exact hr
def hz : Array Value := #[.int .i64 0, .bool false, .slice none 0 0]
structure EJ (W : World) (h15 s14 : Value) (q : Int) (on : Nat) (order : List Int) (L : Nat → Bool) (f : Nat → Value) (w' : World) : Prop where
  f0 : L 0 = true → f 0 = h15
  f1 : L 1 = true → f 1 = s14
  f2 : L 2 = true → ∃ A' c', f 2 = .agg #[.int .i64 (q + 1), .bool true, .slice A' on c'] ∧ w'.ownsRow W.heap.size 3 1 (.slice A' on c') on (order.map (Value.int .i64))
  f3 : L 3 = true → f 3 = h15
  f4 : L 4 = true → f 4 = .agg #[.int .i64 q, .bool false, .slice none 0 0]
  f5 : L 5 = true → ∃ b, f 5 = .pointer (some ⟨b, 0, none⟩) ∧ W.heap.size ≤ b ∧ (L 7 = false → Blk w' b 99 hz) ∧ (L 7 = true → ∃ A' c', f 2 = .agg #[.int .i64 (q + 1), .bool true, .slice A' on c'] ∧ Blk w' b 99 #[.int .i64 (q + 1), .bool true, .slice A' on c'])
  f6 : L 6 = true → ∃ b, f 6 = .pointer (some ⟨b, 0, none⟩) ∧ W.heap.size ≤ b ∧ (L 8 = false → Blk w' b 99 hz) ∧ (L 8 = true → Blk w' b 99 #[.int .i64 q, .bool false, .slice none 0 0]) ∧ (L 5 = true → f 5 ≠ .pointer (some ⟨b, 0, none⟩))
  below : Below W.heap.size W w'
variable {W : World} {h15 s14 : Value} {q : Int} {on : Nat} {order : List Int} {L : Nat → Bool} {f : Nat → Value} {w' w'' : World}
theorem EJ.start : EJ W h15 s14 q on order (fun _ => false) (fun _ => undef) W.drew :=
  ⟨(fun h => by cases h), (fun h => by cases h), (fun h => by cases h), (fun h => by cases h), (fun h => by cases h), (fun h => by cases h), (fun h => by cases h), (Below.refl _ _).drew⟩
theorem EJ.more (k : EJ W h15 s14 q on order L f w') (hb : Below w'.heap.size w' w'') : EJ W h15 s14 q on order L f w'' := by
  refine ⟨k.f0, k.f1, fun h => ?_, k.f3, k.f4, fun h => ?_, fun h => ?_, k.below.trans (hb.mono k.below.size)⟩
  · obtain ⟨A', c', e, hr⟩ := k.f2 h
    exact ⟨A', c', e, row_below hr hb⟩
  · obtain ⟨b, e1, e2, e3, e4⟩ := k.f5 h
    exact ⟨b, e1, e2, fun h7 => (e3 h7).below hb (e3 h7).lt, fun h7 => by
      obtain ⟨A', c', d1, d2⟩ := e4 h7
      exact ⟨A', c', d1, d2.below hb d2.lt⟩⟩
  · obtain ⟨b, e1, e2, e3, e4, e5⟩ := k.f6 h
    exact ⟨b, e1, e2, fun h7 => (e3 h7).below hb (e3 h7).lt, fun h7 => (e4 h7).below hb (e4 h7).lt, e5⟩
theorem EJ.at0 (k : EJ W h15 s14 q on order L f w') : EJ W h15 s14 q on order (fun j => if 0 = j then true else L j) (fun j => if 0 = j then h15 else f j) w' := ⟨fun _ => rfl, k.f1, k.f2, k.f3, k.f4, k.f5, k.f6, k.below⟩
theorem EJ.end (k : EJ W h15 s14 q on order L f w') (hL : ∀ j, j < 9 → L j = true) : ∃ b b' A' c', f 5 = .pointer (some ⟨b, 0, none⟩) ∧ f 6 = .pointer (some ⟨b', 0, none⟩) ∧ Blk w' b 99 #[.int .i64 (q + 1), .bool true, .slice A' on c'] ∧ Blk w' b' 99 #[.int .i64 q, .bool false, .slice none 0 0] ∧
    w'.ownsRow W.heap.size 3 1 (.slice A' on c') on (order.map (Value.int .i64)) ∧ Below W.heap.size W w' := by
  obtain ⟨b, e1, e2, -, e4⟩ := k.f5 (hL 5 (by omega))
  obtain ⟨A', c', d1, d2⟩ := e4 (hL 7 (by omega))
  obtain ⟨b', g1, g2, -, g4, -⟩ := k.f6 (hL 6 (by omega))
  obtain ⟨A2, c2, m1, m2⟩ := k.f2 (hL 2 (by omega))
  rw [d1] at m1
  injection m1 with m1
  have m1 : A' = A2 ∧ c' = c2 := by
    injection m1 with m1
    injection m1 with _ m1
    injection m1 with _ m1
    injection m1 with m1 _
    injection m1 with m1 _ m3
    exact ⟨m1, m3⟩
  obtain ⟨rfl, rfl⟩ := m1
  exact ⟨b, b', A', c', e1, g1, d2, g4 (hL 8 (by omega)), m2, k.below⟩
def fillX (x : Wr1) : Wr1 := if x.2.size < 60 then (x.1, fillB x.2) else x
theorem fillX_fst (x : Wr1) : (fillX x).1 = x.1 := by unfold fillX; split <;> rfl
def laidX (l : List Wr1) (k : Nat) : List Wr1 := (l.take k).map fillX ++ l.drop k
theorem laidX_cons {l : List Wr1} {k : Nat} {x : Wr1} (h : l[k]? = some x) : laidX l (k + 1) = (l.take k).map fillX ++ fillX x :: l.drop (k + 1) := by
  unfold laidX
  rw [List.take_add_one, h]
  simp
theorem laidX_all (l : List Wr1) : laidX l l.length = l.map fillX := by simp [laidX]
theorem refE_through {m : Int} (r : List Wr1) : ∀ a : List Wr1, refE m a = 0 → refE m (a ++ r) = refE m r
  | [], _ => rfl
  | x :: a, h => by
    show (if 0 ≤ x.1 ∧ x.1 < m then (if x.2.size = 256 then refE m (a ++ r) else 1) else 15) = refE m r
    unfold refE at h
    split at h
    · split at h
      · rename_i h1 h2
        rw [if_pos h1, if_pos h2]
        exact refE_through r a h
      · exact absurd h (by decide)
    · exact absurd h (by decide)
structure WantAt (m : Int) (l : List Wr1) (k : Nat) (want : Int) (named : List Int) : Prop where
  ok : want = 0 → refE m ((l.take k).map fillX) = 0 ∧ named = ((l.take k).map Prod.fst).foldl (fun a x => putL x a) []
  bad : want ≠ 0 → refE m (laidX l k) = want
  few : named.length ≤ k
theorem WantAt.start (m : Int) (l : List Wr1) : WantAt m l 0 0 [] := ⟨fun _ => ⟨rfl, rfl⟩, fun h => absurd rfl h, Nat.le_refl _⟩
section
variable {m : Int} {l : List Wr1} {k : Nat} {named : List Int} {x : Wr1}
theorem WantAt.range (h : WantAt m l k 0 named) (hx : l[k]? = some x) (hr : ¬ (0 ≤ x.1 ∧ x.1 < m)) : WantAt m l (k + 1) 15 named := by
  refine ⟨fun e => absurd e (by decide), fun _ => ?_, by have := h.few; omega⟩
  rw [laidX_cons hx, refE_through _ _ (h.ok rfl).1]
  unfold refE
  rw [fillX_fst, if_neg hr]
theorem WantAt.size (h : WantAt m l k 0 named) (hx : l[k]? = some x) (hr : 0 ≤ x.1 ∧ x.1 < m) (hs : (fillX x).2.size ≠ 256) : WantAt m l (k + 1) 1 named := by
  refine ⟨fun e => absurd e (by decide), fun _ => ?_, by have := h.few; omega⟩
  rw [laidX_cons hx, refE_through _ _ (h.ok rfl).1]
  unfold refE
  rw [fillX_fst, if_pos hr, if_neg hs]
theorem WantAt.done (h : WantAt m l l.length 0 named) : refE m (laidX l l.length) = 0 ∧ named = putOnce ((laidX l l.length).map Prod.fst) := by
  obtain ⟨h1, h2⟩ := h.ok rfl
  rw [List.take_length] at h1 h2
  rw [laidX_all]
  refine ⟨h1, ?_⟩
  rw [h2, putAll_once, List.map_map]
  congr 1
  refine List.map_congr_left fun x _ => ?_
  exact (fillX_fst x).symm
end
theorem wrow_cells {w : World} {base : Nat} {e : TypeId} {n c : Nat} {p : Option Addr} {l : List (Int × ByteArray)} (h : w.ownsRow base e 2 (.slice p n c) n (flatI l)) :
    0 < n → ∃ g, p = some ⟨g, 0, none⟩ ∧ base ≤ g ∧ g < w.heap.size ∧ ∀ (j : Nat) (x : Int × ByteArray), l[j]? = some x → w.cell? ⟨g, j * 2, none⟩ = some (.int .i64 x.1) ∧ w.cell? ⟨g, j * 2 + 1, none⟩ = some (.string x.2) := by
  intro hn
  obtain ⟨g, cap, e1, hb, hlt⟩ := h.form hn
  injection e1 with e1 _ e3
  subst e1 e3
  refine ⟨g, rfl, hb, hlt, fun j x hx => ?_⟩
  obtain ⟨q1, q2⟩ := flatI_get hx
  rw [Nat.mul_comm j 2]
  exact ⟨row_cell h q1, row_cell h q2⟩
def HomeAt (W : World) (gh : Nat) (h : List ByteArray) : Prop := gh < W.heap.size ∧ ∀ (t : Nat) (x : ByteArray), h[t]? = some x → W.cell? ⟨gh, t, none⟩ = some (.string x)
theorem HomeAt.keep {W W' : World} {gh : Nat} {h : List ByteArray} {O : List Nat} (hh : HomeAt W gh h) (hk : Keep O W W') (hO : gh ∉ O) : HomeAt W' gh h :=
  ⟨Nat.lt_of_lt_of_le hh.1 hk.size, fun t x hx => (World.cell?_of_block (a := ⟨gh, t, none⟩) (hk.block gh hh.1 hO)).trans (hh.2 t x hx)⟩
theorem HomeAt.below {W W' : World} {gh : Nat} {h : List ByteArray} (hh : HomeAt W gh h) (hb : Below W.heap.size W W') : HomeAt W' gh h := hh.keep (O := []) (Keep.of_below hb) (by simp)
theorem HomeAt.txts {W : World} {gh : Nat} {h : List ByteArray} (hh : HomeAt W gh h) : Txts W W.heap.size (some ⟨gh, 0, none⟩) h := fun _ => ⟨gh, 0, rfl, hh.1, fun j x hx => by rw [Nat.zero_add]; exact hh.2 j x hx⟩
structure St9 (N gd : Nat) (w wr : World) (gw gh : Nat) (q k : Int) (h s : List ByteArray) (S : DS) (O : List Nat) (j : Nat) : Prop where
  disk : DiskAt wr O gd S
  clean : Clean S s
  held : Held N q h s
  left : S.left ≤ 60
  few : S.writes ≤ 1000 * j
  wal : Blk wr gw 101 (walC gd q true k)
  kk : 0 ≤ k ∧ k ≤ (j : Int)
  qj : q ≤ (j : Int)
  apart : gw ∉ O
  own : ∀ b ∈ O, w.heap.size ≤ b
  gwB : w.heap.size ≤ gw
  home : HomeAt wr gh h
  ghB : w.heap.size ≤ gh
  ghO : gh ∉ O
  ghw : gh ≠ gw
  below : Below w.heap.size w wr
section
variable {N gd : Nat} {w wr w1 w' : World} {gw gh gw' gh' : Nat} {q k q' : Int} {h s h' Z : List ByteArray} {S S' S1 : DS} {O O1 : List Nat} {j : Nat}
theorem St9.calls (t : St9 N gd w wr gw gh q k h s S O j) (hb : Below wr.heap.size wr w') : St9 N gd w w' gw gh q k h s S O j :=
  ⟨t.disk.below hb, t.clean, t.held, t.left, t.few, t.wal.below hb t.wal.lt, t.kk, t.qj, t.apart, t.own, t.gwB, t.home.below hb, t.ghB, t.ghO, t.ghw, t.below.trans (hb.mono t.below.size)⟩
theorem St9.next (t : St9 N gd w wr gw gh q k h s S O j) : St9 N gd w wr gw gh q k h s S O (j + 1) :=
  ⟨t.disk, t.clean, t.held, t.left, by have := t.few; omega, t.wal, by have := t.kk; omega, by have := t.qj; omega, t.apart, t.own, t.gwB, t.home, t.ghB, t.ghO, t.ghw, t.below⟩
theorem St9.keep {g : Nat} (t : St9 N gd w wr gw gh q k h s S O j) (hk : Keep [g] wr w') (hg : w.heap.size ≤ g) (h1 : g ∉ O) (h2 : g ≠ gw) (h3 : g ≠ gh) : St9 N gd w w' gw gh q k h s S O j :=
  ⟨t.disk.far hk (fun b hb hm => h1 ((List.mem_singleton.1 hm) ▸ hb)), t.clean, t.held, t.left, t.few, (hk.block gw t.wal.lt (fun hm => h2 (List.mem_singleton.1 hm).symm)).trans t.wal, t.kk, t.qj, t.apart, t.own, t.gwB, t.home.keep hk (fun hm => h3 (List.mem_singleton.1 hm).symm), t.ghB, t.ghO, t.ghw, t.below.trans (hk.below (fun b hb => by rw [List.mem_singleton.1 hb]; exact hg) t.below.size)⟩
theorem St9.turned (t : St9 N gd w wr gw gh q k h s S O j) (hT : Turns O gd S' wr w') (hc : Clean S' s) (hl : S'.left ≤ 60) (hw : S'.writes = S.writes) : ∃ O', St9 N gd w w' gw gh q k h s S' O' j := by
  obtain ⟨O', d1, d2, d3⟩ := hT
  have no : ∀ {b : Nat}, b < wr.heap.size → b ∉ O → b ∉ O' := fun hb hn hm => by
    rcases d2 _ hm with h | h
    · exact hn h
    · omega
  refine ⟨O', d1, hc, t.held, hl, by rw [hw]; exact t.few, (d3.block gw t.wal.lt t.apart).trans t.wal, t.kk, t.qj, no t.wal.lt t.apart, fun b hb => ?_, t.gwB, t.home.keep d3 t.ghO, t.ghB, no t.home.1 t.ghO, t.ghw, t.below.trans (d3.below t.own t.below.size)⟩
  rcases d2 b hb with h | h
  · exact t.own b h
  · exact Nat.le_trans t.below.size h
theorem OpenedAt.st (ho : OpenedAt O1 gd gw' S' q' w1 w') (own : ∀ b ∈ O1, w.heap.size ≤ b) (hb : Below w.heap.size w w1) (hh : HomeAt w1 gh h) (hgB : w.heap.size ≤ gh) (hgO : gh ∉ O1) (hc : Clean S' Z) (hs : Held N q' h Z) (hl : S'.left ≤ 60) (hw : S'.writes ≤ 1000 * j) (hq : q' ≤ (j : Int)) : ∃ O', St9 N gd w w' gw' gh q' 0 h Z S' O' j := by
  obtain ⟨O', e1, e2, e3, e4, e5, e6⟩ := ho
  refine ⟨O', e1, hc, hs, hl, hw, e4, ⟨by omega, by omega⟩, hq, e6, fun b hm => ?_, Nat.le_trans hb.size e5, hh.keep e3 hgO, hgB, fun hm => ?_, fun e => ?_, hb.trans (e3.below own hb.size)⟩
  · rcases e2 b hm with h | h
    · exact own b h
    · exact Nat.le_trans hb.size h
  · rcases e2 gh hm with h | h
    · exact hgO h
    · have := hh.1; omega
  · have := hh.1; omega
end
end Go.Proofs.YtiagofgcinlnhaaGreatDoor
