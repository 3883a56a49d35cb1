/-
  A region that draws its order: operations of known values, whatever blocks they make, and a store behind them all. No statement is proved here.
-/
import Derived.Test.YtokddfbjjghpkaaDoorRegionApp
namespace Go.Proofs.YtokddfbjjghpkaaDoor
open Go.RowKit

theorem wp_region_store {P : Program} {ops : Array Oper} {Q : Exit → Act → World → Prop} (lo k hi : Nat) (V : Nat → Value) (J J' : World → Prop) {id : Nat} {a : Act} {w : World}
    (hm : P.follows .mixedOrders = true) (he : early .any ops = true) (hsz : ops.size = k + 1) (hsink : sinkL ops k = true) (hhi : lo + k = hi + 1) (hlo : lo + k ≤ a.tmps.size)
    (hJ : ∀ w w' : World, J w → w.grownBy w' none → J w') (h0 : J w)
    (hops : ∀ i, i < k → ∀ (x : Act) (w' : World), FrameKept a lo hi x → J w' → (∀ j ∈ waitsFor .any ops i, j < k → x.tmps[lo + j]?.getD undef = V j) → wpOp P ops Q i (fun x' w'' => x' = x.put (some (lo + i)) (V i) ∧ w'.grownBy w'' none) x w')
    (hlast : ∀ (x : Act) (w' : World), FrameKept a lo hi x → J w' → (∀ j, j < k → x.tmps[lo + j]?.getD undef = V j) → wpOp P ops Q k (fun x' w'' => x' = x.put none undef ∧ J' w'') x w')
    (hK : ∀ (x : Act) (w' : World), FrameKept a lo hi x → (∀ j, j < k → x.tmps[lo + j]?.getD undef = V j) → J' w' → Q .normal x w') : (Code.region id ops true).wp P Q a w := by
  have hcl : ∀ (L : Nat → Bool) (i : Nat), (∀ i, L i = true → ∀ j ∈ waitsFor .any ops i, L j = true) → (∀ j ∈ waitsFor .any ops i, L j = true) → ∀ n, (fun j => if i = j then true else L j) n = true → ∀ j ∈ waitsFor .any ops n, (fun j => if i = j then true else L j) j = true := by
    intro L i h1 h2 n hn j hj
    by_cases hij : i = j
    · simp [hij]
    · simp only [if_neg hij]
      by_cases hin : i = n
      · subst hin; exact h2 j hj
      · simp only [if_neg hin] at hn
        exact h1 n hn j hj
  refine wp_region_kept (fun L x w => FrameKept a lo hi x ∧ Left k lo (fun i v => v = V i) L x ∧ (∀ i, L i = true → ∀ j ∈ waitsFor .any ops i, L j = true) ∧ (L k = true → J' w) ∧ (L k = false → J w)) hm he ?_ ?_ ?_
  · exact ⟨FrameKept.refl _ _ _, (fun _ _ h => by cases h), (fun _ h => by cases h), (fun h => by cases h), fun _ => hJ _ _ h0 (by_drew (by_refl _ _))⟩
  · intro L x w' i ⟨hF, hL, hc, h1, h2⟩ hi hLi hw
    by_cases hik : i = k
    · subst hik
      have hall : ∀ j, j < i → L j = true := fun j hj => by
        have := sink_done (L := fun j => if i = j then true else L j) hsink (hcl L i hc hw) (by simp) j hj
        simpa [show i ≠ j by omega] using this
      refine wpOp_mono (fun x' w'' h => ?_) (hlast x w' hF (h2 hLi) (fun j hj => hL j hj (hall j hj)))
      obtain ⟨rfl, hj'⟩ := h
      refine ⟨hF, fun j hj hLj => ?_, hcl L i hc hw, fun _ => hj', fun h => by simp at h⟩
      simp only [if_neg (show ¬ i = j by omega)] at hLj
      exact hL j hj hLj
    · have hi : i < k := by omega
      have hk : L k = false := by
        cases hb : L k with
        | false => rfl
        | true =>
          have := sink_done hsink hc hb i hi
          rw [hLi] at this
          cases this
      refine wpOp_mono (fun x' w'' h => ?_) (hops i hi x w' hF (h2 hk) (fun j hj hjk => hL j hjk (hw j hj)))
      obtain ⟨rfl, hg⟩ := h
      refine ⟨hF.put _ _ (by omega) (by omega), hL.next i (V i) (by rw [hF.2.1]; omega) (fun _ _ _ _ hu => hu) rfl, hcl L i hc hw, fun h => ?_, fun _ => hJ _ _ (h2 hk) hg⟩
      simp only [if_neg hik, hk] at h
      cases h
  · intro L x w' ⟨hF, hL, _, h1, _⟩ hall
    exact hK x w' hF (fun j hj => hL j hj (hall j (by omega))) (h1 (hall k (by omega)))
theorem arr31 (a : Array Value) (h : a.size = 31) : ∃ y0 y1 y2 y3 y4 y5 y6 y7 y8 y9 y10 y11 y12 y13 y14 y15 y16 y17 y18 y19 y20 y21 y22 y23 y24 y25 y26 y27 y28 y29 y30 : Value, a = #[y0, y1, y2, y3, y4, y5, y6, y7, y8, y9, y10, y11, y12, y13, y14, y15, y16, y17, y18, y19, y20, y21, y22, y23, y24, y25, y26, y27, y28, y29, y30] := by
  obtain ⟨l⟩ := a
  have h : l.length = 31 := h
  obtain ⟨y0, t1, e1, h1⟩ := cons_of h
  obtain ⟨y1, t2, e2, h2⟩ := cons_of h1
  obtain ⟨y2, t3, e3, h3⟩ := cons_of h2
  obtain ⟨y3, t4, e4, h4⟩ := cons_of h3
  obtain ⟨y4, t5, e5, h5⟩ := cons_of h4
  obtain ⟨y5, t6, e6, h6⟩ := cons_of h5
  obtain ⟨y6, t7, e7, h7⟩ := cons_of h6
  obtain ⟨y7, t8, e8, h8⟩ := cons_of h7
  obtain ⟨y8, t9, e9, h9⟩ := cons_of h8
  obtain ⟨y9, t10, e10, h10⟩ := cons_of h9
  obtain ⟨y10, t11, e11, h11⟩ := cons_of h10
  obtain ⟨y11, t12, e12, h12⟩ := cons_of h11
  obtain ⟨y12, t13, e13, h13⟩ := cons_of h12
  obtain ⟨y13, t14, e14, h14⟩ := cons_of h13
  obtain ⟨y14, t15, e15, h15⟩ := cons_of h14
  obtain ⟨y15, t16, e16, h16⟩ := cons_of h15
  obtain ⟨y16, t17, e17, h17⟩ := cons_of h16
  obtain ⟨y17, t18, e18, h18⟩ := cons_of h17
  obtain ⟨y18, t19, e19, h19⟩ := cons_of h18
  obtain ⟨y19, t20, e20, h20⟩ := cons_of h19
  obtain ⟨y20, t21, e21, h21⟩ := cons_of h20
  obtain ⟨y21, t22, e22, h22⟩ := cons_of h21
  obtain ⟨y22, t23, e23, h23⟩ := cons_of h22
  obtain ⟨y23, t24, e24, h24⟩ := cons_of h23
  obtain ⟨y24, t25, e25, h25⟩ := cons_of h24
  obtain ⟨y25, t26, e26, h26⟩ := cons_of h25
  obtain ⟨y26, t27, e27, h27⟩ := cons_of h26
  obtain ⟨y27, t28, e28, h28⟩ := cons_of h27
  obtain ⟨y28, t29, e29, h29⟩ := cons_of h28
  obtain ⟨y29, t30, e30, h30⟩ := cons_of h29
  obtain ⟨y30, t31, e31, h31⟩ := cons_of h30
  have e32 := List.eq_nil_of_length_eq_zero h31
  exact ⟨y0, y1, y2, y3, y4, y5, y6, y7, y8, y9, y10, y11, y12, y13, y14, y15, y16, y17, y18, y19, y20, y21, y22, y23, y24, y25, y26, y27, y28, y29, y30, by rw [e1, e2, e3, e4, e5, e6, e7, e8, e9, e10, e11, e12, e13, e14, e15, e16, e17, e18, e19, e20, e21, e22, e23, e24, e25, e26, e27, e28, e29, e30, e31, e32]⟩
end Go.Proofs.YtokddfbjjghpkaaDoor
