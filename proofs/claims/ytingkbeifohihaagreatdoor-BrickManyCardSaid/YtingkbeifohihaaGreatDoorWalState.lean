/-
  WalPlays on its way: the disk, the Wal upon it, and the home that the law keeps. No statement is proved here.
-/
import Derived.Test.YtingkbeifohihaaGreatDoorWalLeft
import Derived.StillTailTactics
import Derived.Deep.AppendLies
import Derived.Test.YtingkbeifohihaaGreatDoorDiskCalls
import Derived.Test.YtingkbeifohihaaGreatDoorWalCalm
import Derived.Test.YtingkbeifohihaaGreatDoorGrow
import Derived.ArgAppend
import Derived.Test.YtingkbeifohihaaGreatDoorHeadLib
import Derived.Test.YtingkbeifohihaaGreatDoorProg
import Derived.Test.YtingkbeifohihaaGreatDoorMarkSmall
import Derived.Outline
import Derived.Test.YtingkbeifohihaaGreatDoorRoomSmall
namespace Go.Proofs.YtingkbeifohihaaGreatDoor
open Go.RowKit
variable {w : World} {gw gd : Nat} {O : List Nat} {S : DS} {seq k : Int} {n : Nat}
theorem Yd (h : S.on = true) {x : ByteArray} {i : Nat} (hx : S.now[i]? = some x) : S.read (i : Int) = x /\ S.errR (i : Int) = 0 := by
 have hi : i < S.now.length := by
  rcases Nat.lt_or_ge i S.now.length with h' | h'
  ·exact h'
  ·rw [List.getElem?_eq_none h'] at hx; cases hx
 constructor
 ·unfold DS.read
  rw [if_pos ⟨h, by omega, by omega⟩, Int.toNat_natCast, List.getD_eq_getElem?_getD, hx]
  rfl
 ·unfold DS.errR
  rw [if_pos h, if_pos ⟨by omega, by omega⟩]
variable {w : World} {gd gw N : Nat} {O : List Nat} {S : DS} {q : Int} {h s Y : List ByteArray} {l : List eA}
theorem zF (N : Nat) (hN : 140 <= N /\ N <= 400) : tT N 0 (List.replicate (N - 111) (aY 256)) (List.replicate N (aY 256)) := by
 refine ⟨by simp, hN, ?_, by omega, by simp, fun t ht => ?_, fun x hx => ?_⟩
 ·rw [List.getElem?_replicate, if_pos (by omega)]; rfl
 ·rw [List.getElem?_replicate, if_pos (by omega), List.getElem?_replicate, if_pos ht]
 ·rw [(List.mem_replicate.1 hx).2, gD]; exact Nat.le_refl _
theorem Qf (hd : bE w O gd S) (hon : S.on = true) (hs : tT N q h S.now) : Calls Tryz.prog 90 #[.pointer (some ⟨gd, 0, none⟩)] w fun e w' => ∃ gw, e = .returned (.tuple #[.pointer (some ⟨gw, 0, none⟩), .int .i64 0]) /\ kZ O gd gw S q w w' := by
 have hdm := hs.dim
 refine (Gr hd (fun x hx => by have := hs.small x hx; omega) hon (by rw [hs.len]; omega) (Yd hon hs.head).1 (Jz hs.seq.1 hs.seq.2)).mono ?_
 rintro e w' ⟨gw, rfl, k1, k2, k3⟩
 exact ⟨gw, rfl, kZ.of_plain hd k1 k2 k3⟩
def eJ (sl : Nat -> Option Nat) (V : Nat -> Value) (k : Nat) (t : Array Value) : Array Value := (List.range k).foldl (fun t i => match sl i with | some s => t.setIfInBounds s (V i) | none => t) t
theorem mH (sl : Nat -> Option Nat) (V : Nat -> Value) (k : Nat) (t : Array Value) : eJ sl V (k + 1) t = match sl k with | some s => (eJ sl V k t).setIfInBounds s (V k) | none => eJ sl V k t := by
 unfold eJ
 rw [List.range_succ, List.foldl_append]
 rfl
theorem Ab (sl : Nat -> Option Nat) (V : Nat -> Value) (k : Nat) (t : Array Value) : (eJ sl V k t).size = t.size := by
 induction k with
 | zero => rfl
 | succ k ih =>
   rw [mH]
   split
   ·rw [Array.size_setIfInBounds]; exact ih
   ·exact ih
theorem sW (sl : Nat -> Option Nat) (V : Nat -> Value) (k : Nat) (t : Array Value) (s : Nat) (h : ∀ i, i < k -> sl i ≠ some s) : (eJ sl V k t)[s]? = t[s]? := by
 induction k with
 | zero => rfl
 | succ k ih =>
   rw [mH]
   split
   ·rename_i s' e
    rw [Array.getElem?_setIfInBounds_ne (fun e' => h k (by omega) (by rw [e, e']))]
    exact ih fun i hi => h i (by omega)
   ·exact ih fun i hi => h i (by omega)
theorem qJ (sl : Nat -> Option Nat) (V : Nat -> Value) (k : Nat) (t : Array Value) (hd : ∀ i j s, i < k -> j < k -> sl i = some s -> sl j = some s -> i = j) {i s : Nat} (hi : i < k) (hs : sl i = some s) (hlt : s < t.size) : (eJ sl V k t)[s]? = some (V i) := by
 induction k with
 | zero => omega
 | succ k ih =>
   rw [mH]
   by_cases e : i = k
   ·subst e
    rw [hs]
    show ((eJ sl V i t).setIfInBounds s (V i))[s]? = _
    rw [Array.getElem?_setIfInBounds_self, if_pos (by rw [Ab]; exact hlt)]
   ·have h1 := ih (fun i j s hi hj => hd i j s (by omega) (by omega)) (by omega)
    split
    ·rename_i s' e'
     rw [Array.getElem?_setIfInBounds_ne (fun e2 => e (hd i k s hi (by omega) hs (by rw [e', e2])))]
     exact h1
    ·exact h1
theorem vX {P : Program} {ops : Array Oper} {Q : Exit -> Act -> World -> Prop} (k : Nat) (sl : Nat -> Option Nat) (V : Nat -> Value) (J : (Nat -> Bool) -> World -> Prop) {id : Nat} {a : Act} {w : World}
  (hm : P.follows .mixedOrders = true) (he : nU .any ops = true) (hsz : ops.size = k)
  (hd : ((List.range k).all fun i => (List.range k).all fun j => i == j || sl i == none || sl i != sl j) = true) (hs : ((List.range k).all fun i => match sl i with | some s => decide (s < a.tmps.size) | none => true) = true)
  (h0 : J (fun _ => false) w.drew)
  (hops : ∀ i, i < k -> ∀ (L : Nat -> Bool) (x : Act) (w' : World), (∀ n, L n = true -> ∀ j ∈ aQ .any ops n, L j = true) -> (∀ s, (∀ i, i < k -> sl i ≠ some s) -> x.tmps[s]? = a.tmps[s]?) -> L i = false -> J L w' -> (∀ j ∈ aQ .any ops i, L j = true) -> (∀ j ∈ aQ .any ops i, j < k -> ∀ s, sl j = some s -> x.tmps[s]?.getD undef = V j) -> wpOp P ops Q i (fun x' w'' => x' = x.put (sl i) (V i) /\ J (fun j => if i = j then true else L j) w'') x w')
  (hrest : ∀ (L : Nat -> Bool) (w' : World), (∀ j, j < k -> L j = true) -> J L w' -> Q .normal ⟨eJ sl V k a.tmps, a.defers⟩ w') : (Code.region id ops true).wp P Q a w := by
 have hd' : ∀ i j s, i < k -> j < k -> sl i = some s -> sl j = some s -> i = j := by
  intro i j s hi hj h1 h2
  have := List.all_eq_true.1 (List.all_eq_true.1 hd i (List.mem_range.2 hi)) j (List.mem_range.2 hj)
  rw [h1, h2] at this
  simpa using this
 have hs' : ∀ i s, i < k -> sl i = some s -> s < a.tmps.size := by
  intro i s hi h1
  have := List.all_eq_true.1 hs i (List.mem_range.2 hi)
  rw [h1] at this
  simpa using this
 refine cJ (fun L x w => (∀ i, L i = true -> ∀ j ∈ aQ .any ops i, L j = true) /\ x.defers = a.defers /\ x.tmps.size = a.tmps.size /\ (∀ s, (∀ i, i < k -> sl i ≠ some s) -> x.tmps[s]? = a.tmps[s]?) /\ (∀ i s, i < k -> L i = true -> sl i = some s -> x.tmps[s]? = some (V i)) /\ J L w) hm he ?_ ?_ ?_
 ·exact ⟨(fun _ h => by cases h), rfl, rfl, fun _ _ => rfl, (fun _ _ _ h => by cases h), h0⟩
 ·intro L x w' i ⟨hc, h1, h2, h3, h4, hJ⟩ hi hLi hw
  rw [hsz] at hi
  refine wpOp_mono (fun x' w'' h => ?_) (hops i hi L x w' hc h3 hLi hJ hw (fun j hj hjk s hs => by rw [h4 j s hjk (hw j hj) hs]; rfl))
  obtain ⟨rfl, hj'⟩ := h
  refine ⟨fun n hn j hj => ?_, ?_, ?_, fun s hno => ?_, fun n s hn hL hs => ?_, hj'⟩
  ·by_cases hij : i = j
   ·simp [hij]
   ·simp only [if_neg hij]
    by_cases hin : i = n
    ·subst hin; exact hw j hj
    ·simp only [if_neg hin] at hn
     exact hc n hn j hj
  ·cases sl i <;> exact h1
  ·cases hsl : sl i with
   | none => exact h2
   | some s => show (x.tmps.setIfInBounds s (V i)).size = _; rw [Array.size_setIfInBounds]; exact h2
  ·cases hsl : sl i with
   | none => exact h3 s hno
   | some s' =>
     show (x.tmps.setIfInBounds s' (V i))[s]? = _
     rw [Array.getElem?_setIfInBounds_ne (fun e => hno i hi (by rw [hsl, e]))]
     exact h3 s hno
  ·by_cases e : i = n
   ·subst e
    rw [hs]
    show (x.tmps.setIfInBounds s (V i))[s]? = _
    rw [Array.getElem?_setIfInBounds_self, if_pos (by rw [h2]; exact hs' i s hi hs)]
   ·simp only [if_neg e] at hL
    cases hsl : sl i with
    | none => exact h4 n s hn hL hs
    | some s' =>
      show (x.tmps.setIfInBounds s' (V i))[s]? = _
      rw [Array.getElem?_setIfInBounds_ne (fun e2 => e (hd' i n s hi hn (by rw [hsl, e2]) hs))]
      exact h4 n s hn hL hs
 ·intro L x w' ⟨_, h1, h2, h3, h4, hJ⟩ hall
  rw [hsz] at hall
  have hr := hrest L w' hall hJ
  have hx : x = ⟨eJ sl V k a.tmps, a.defers⟩ := by
   obtain ⟨X, D⟩ := x
   obtain rfl : D = a.defers := h1
   congr 1
   apply Array.ext_getElem?
   intro s
   by_cases hex : ∃ i, i < k /\ sl i = some s
   ·obtain ⟨i, hi, hsl⟩ := hex
    rw [qJ sl V k a.tmps hd' hi hsl (hs' i s hi hsl)]
    exact h4 i s hi (hall i hi) hsl
   ·have hno : ∀ i, i < k -> sl i ≠ some s := fun i hi e => hex ⟨i, hi, e⟩
    rw [sW _ _ _ _ _ hno]
    exact h3 s hno
  rw [hx]
  exact hr
theorem zG {P : Program} {ops : Array Oper} {Q : Exit -> Act -> World -> Prop} (k : Nat) (sl : Nat -> Option Nat) (J : (Nat -> Bool) -> (Nat -> Value) -> World -> Prop) {id : Nat} {a : Act} {w : World}
  (hm : P.follows .mixedOrders = true) (he : nU .any ops = true) (hsz : ops.size = k)
  (hd : ((List.range k).all fun i => (List.range k).all fun j => i == j || sl i == none || sl i != sl j) = true) (hs : ((List.range k).all fun i => match sl i with | some s => decide (s < a.tmps.size) | none => true) = true)
  (h0 : J (fun _ => false) (fun _ => undef) w.drew)
  (hops : ∀ i, i < k -> ∀ (L : Nat -> Bool) (f : Nat -> Value) (x : Act) (w' : World), (∀ n, L n = true -> ∀ j ∈ aQ .any ops n, L j = true) -> (∀ s, (∀ i, i < k -> sl i ≠ some s) -> x.tmps[s]? = a.tmps[s]?) -> L i = false -> J L f w' -> (∀ j ∈ aQ .any ops i, L j = true) -> (∀ j s, j < k -> L j = true -> sl j = some s -> x.tmps[s]?.getD undef = f j) -> wpOp P ops Q i (fun x' w'' => ∃ v, x' = x.put (sl i) v /\ J (fun j => if i = j then true else L j) (fun j => if i = j then v else f j) w'') x w')
  (hrest : ∀ (L : Nat -> Bool) (f : Nat -> Value) (w' : World), (∀ j, j < k -> L j = true) -> J L f w' -> Q .normal ⟨eJ sl f k a.tmps, a.defers⟩ w') : (Code.region id ops true).wp P Q a w := by
 have hd' : ∀ i j s, i < k -> j < k -> sl i = some s -> sl j = some s -> i = j := by
  intro i j s hi hj h1 h2
  have := List.all_eq_true.1 (List.all_eq_true.1 hd i (List.mem_range.2 hi)) j (List.mem_range.2 hj)
  rw [h1, h2] at this
  simpa using this
 have hs' : ∀ i s, i < k -> sl i = some s -> s < a.tmps.size := by
  intro i s hi h1
  have := List.all_eq_true.1 hs i (List.mem_range.2 hi)
  rw [h1] at this
  simpa using this
 refine cJ (fun L x w => (∀ i, L i = true -> ∀ j ∈ aQ .any ops i, L j = true) /\ x.defers = a.defers /\ x.tmps.size = a.tmps.size /\ (∀ s, (∀ i, i < k -> sl i ≠ some s) -> x.tmps[s]? = a.tmps[s]?) /\ ∃ f, (∀ i s, i < k -> L i = true -> sl i = some s -> x.tmps[s]? = some (f i)) /\ J L f w) hm he ?_ ?_ ?_
 ·exact ⟨(fun _ h => by cases h), rfl, rfl, fun _ _ => rfl, _, (fun _ _ _ h => by cases h), h0⟩
 ·intro L x w' i ⟨hc, h1, h2, h3, f, h4, hJ⟩ hi hLi hw
  rw [hsz] at hi
  refine wpOp_mono (fun x' w'' h => ?_) (hops i hi L f x w' hc h3 hLi hJ hw (fun j s hjk hL hs => by rw [h4 j s hjk hL hs]; rfl))
  obtain ⟨v, rfl, hj'⟩ := h
  refine ⟨fun n hn j hj => ?_, ?_, ?_, fun s hno => ?_, _, fun n s hn hL hs => ?_, hj'⟩
  ·by_cases hij : i = j
   ·simp [hij]
   ·simp only [if_neg hij]
    by_cases hin : i = n
    ·subst hin; exact hw j hj
    ·simp only [if_neg hin] at hn
     exact hc n hn j hj
  ·cases sl i <;> exact h1
  ·cases hsl : sl i with
   | none => exact h2
   | some s => show (x.tmps.setIfInBounds s v).size = _; rw [Array.size_setIfInBounds]; exact h2
  ·cases hsl : sl i with
   | none => exact h3 s hno
   | some s' =>
     show (x.tmps.setIfInBounds s' v)[s]? = _
     rw [Array.getElem?_setIfInBounds_ne (fun e => hno i hi (by rw [hsl, e]))]
     exact h3 s hno
  ·by_cases e : i = n
   ·subst e
    rw [hs]
    show (x.tmps.setIfInBounds s v)[s]? = _
    rw [Array.getElem?_setIfInBounds_self, if_pos (by rw [h2]; exact hs' i s hi hs), if_pos rfl]
   ·simp only [if_neg e] at hL ⊢
    cases hsl : sl i with
    | none => exact h4 n s hn hL hs
    | some s' =>
      show (x.tmps.setIfInBounds s' v)[s]? = _
      rw [Array.getElem?_setIfInBounds_ne (fun e2 => e (hd' i n s hi hn (by rw [hsl, e2]) hs))]
      exact h4 n s hn hL hs
 ·intro L x w' ⟨_, h1, h2, h3, f, h4, hJ⟩ hall
  rw [hsz] at hall
  have hr := hrest L f w' hall hJ
  have hx : x = ⟨eJ sl f k a.tmps, a.defers⟩ := by
   obtain ⟨X, D⟩ := x
   obtain rfl : D = a.defers := h1
   congr 1
   apply Array.ext_getElem?
   intro s
   by_cases hex : ∃ i, i < k /\ sl i = some s
   ·obtain ⟨i, hi, hsl⟩ := hex
    rw [qJ sl f k a.tmps hd' hi hsl (hs' i s hi hsl)]
    exact h4 i s hi (hall i hi) hsl
   ·have hno : ∀ i, i < k -> sl i ≠ some s := fun i hi e => hex ⟨i, hi, e⟩
    rw [sW _ _ _ _ _ hno]
    exact h3 s hno
  rw [hx]
  exact hr
theorem Ks {w : World} {base : Nat} {e : TypeId} {n c : Nat} {p : Option Addr} {l : List (Int × ByteArray)} (h : w.ownsRow base e 2 (.slice p n c) n (eQ l)) :
  0 < n -> ∃ g, p = some ⟨g, 0, none⟩ /\ base <= g /\ g < w.heap.size /\ ∀ (j : Nat) (x : Int × ByteArray), l[j]? = some x -> w.cell? ⟨g, j * 2, none⟩ = some (.int .i64 x.1) /\ w.cell? ⟨g, j * 2 + 1, none⟩ = some (.string x.2) := by
 intro hn
 obtain ⟨g, cap, e1, hb, hlt⟩ := h.form hn
 injection e1 with e1 _ e3
 subst e1 e3
 refine ⟨g, rfl, hb, hlt, fun j x hx => ?_⟩
 obtain ⟨q1, q2⟩ := tU hx
 rw [Nat.mul_comm j 2]
 exact ⟨dY h q1, dY h q2⟩
section
variable {N gd : Nat} {w wr w1 w' : World} {gw gh gw' gh' : Nat} {q k q' : Int} {h s h' Z : List ByteArray} {S S' S1 : DS} {O O1 : List Nat} {j : Nat}
end
end Go.Proofs.YtingkbeifohihaaGreatDoor
