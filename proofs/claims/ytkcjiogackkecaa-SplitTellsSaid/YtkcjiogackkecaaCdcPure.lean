/-
  Where pieces end, as plain functions over lists of bytes, and what follows from them. No statement is proved here.
-/
import Derived.Test.YtkcjiogackkecaaGearPure
import Derived.Test.YtkcjiogackkecaaFixedPure
namespace Go.Proofs.Ytkcjiogackkecaa
open Go.RowKit

/-- A rule's five numbers. -/
structure RuleN where
  mn : Int
  md : Int
  mx : Int
  hd : Int
  sf : Int
/-- May it be? -/
def RuleN.ok (R : RuleN) : Bool := decide (1 ≤ R.mn ∧ R.mn ≤ R.md ∧ R.md ≤ R.mx ∧ R.mx ≤ 4096 ∧ 0 ≤ R.hd ∧ R.hd ≤ 20 ∧ 0 ≤ R.sf ∧ R.sf ≤ 20)
/-- How many bits are asked for at a place. -/
def RuleN.bits (R : RuleN) (at' : Nat) : Nat := if (at' : Int) < R.md then R.hd.toNat else R.sf.toNat
/-- Does a piece end behind the byte at a place, the number being h? -/
def RuleN.hit (R : RuleN) (at' h : Nat) : Bool := h / 65536 % 2 ^ R.bits at' == 0
/-- Where the piece ends, bytes l being left ahead of its utmost end. -/
def goF (R : RuleN) : Nat → Nat → List UInt8 → Nat
  | at', _, [] => at'
  | at', h, b :: t => if R.hit at' (gstep h b) then at' + 1 else goF R (at' + 1) (gstep h b) t
/-- How many bytes the first piece has. -/
def firstL (R : RuleN) (l : List UInt8) : Nat :=
  if R.ok = true then (if (l.length : Int) ≤ R.mn then l.length else goF R R.mn.toNat 0 ((l.take R.mx.toNat).drop R.mn.toNat)) else l.length

theorem goF_le (R : RuleN) : ∀ (l : List UInt8) (a h : Nat), a ≤ goF R a h l ∧ goF R a h l ≤ a + l.length
  | [], a, h => by simp [goF]
  | b :: t, a, h => by
    unfold goF
    split
    · simp
    · have := goF_le R t (a + 1) (gstep h b)
      simp only [List.length_cons]
      omega
/-- What ends ahead of the utmost end is a hit: what stands behind counts for nothing. -/
theorem goF_more (R : RuleN) : ∀ (l : List UInt8) (a h n : Nat) (more : List UInt8), goF R a h l = n → n < a + l.length → goF R a h (l.take (n - a) ++ more) = n
  | [], a, h, n, more, _, hlt => by simp [goF] at *; omega
  | b :: t, a, h, n, more, he, hlt => by
    have hle := goF_le R (b :: t) a h
    unfold goF at he
    split at he
    · rename_i hh
      subst he
      rw [show a + 1 - a = 0 + 1 by omega, List.take_succ_cons, List.take_zero, List.cons_append]
      unfold goF
      rw [if_pos hh]
    · rename_i hh
      have h2 := goF_le R t (a + 1) (gstep h b)
      have ih := goF_more R t (a + 1) (gstep h b) n more he (by simp only [List.length_cons] at hlt; omega)
      rw [show n - a = (n - (a + 1)) + 1 by omega, List.take_succ_cons, List.cons_append]
      unfold goF
      rw [if_neg hh]
      exact ih
/-- The piece by itself. -/
theorem goF_take (R : RuleN) : ∀ (l : List UInt8) (a h n : Nat), goF R a h l = n → goF R a h (l.take (n - a)) = n
  | [], a, h, n, he => by simpa [goF] using he
  | b :: t, a, h, n, he => by
    unfold goF at he
    split at he
    · rename_i hh
      subst he
      rw [show a + 1 - a = 0 + 1 by omega, List.take_succ_cons, List.take_zero]
      unfold goF
      rw [if_pos hh]
    · rename_i hh
      have h2 := goF_le R t (a + 1) (gstep h b)
      have ih := goF_take R t (a + 1) (gstep h b) n he
      rw [show n - a = (n - (a + 1)) + 1 by omega, List.take_succ_cons]
      unfold goF
      rw [if_neg hh]
      exact ih

theorem RuleN.ok_parts {R : RuleN} (h : R.ok = true) : 1 ≤ R.mn ∧ R.mn ≤ R.md ∧ R.md ≤ R.mx ∧ R.mx ≤ 4096 ∧ 0 ≤ R.hd ∧ R.hd ≤ 20 ∧ 0 ≤ R.sf ∧ R.sf ≤ 20 := by
  unfold RuleN.ok at h
  simpa using h
theorem firstL_le (R : RuleN) (l : List UInt8) : firstL R l ≤ l.length := by
  unfold firstL
  split
  · rename_i h
    have hp := R.ok_parts h
    split
    · exact Nat.le_refl _
    · have := (goF_le R ((l.take R.mx.toNat).drop R.mn.toNat) R.mn.toNat 0).2
      simp only [List.length_drop, List.length_take] at this
      omega
  · exact Nat.le_refl _
theorem firstL_pos (R : RuleN) (l : List UInt8) (hl : l ≠ []) : 1 ≤ firstL R l := by
  have : 1 ≤ l.length := by
    cases l
    · exact absurd rfl hl
    · simp
  unfold firstL
  split
  · rename_i h
    have hp := R.ok_parts h
    split
    · exact this
    · have := (goF_le R ((l.take R.mx.toNat).drop R.mn.toNat) R.mn.toNat 0).1
      omega
  · exact this
/-- Not more than the utmost length; if it is not all of it, at least the least. -/
theorem firstL_bound {R : RuleN} (h : R.ok = true) (l : List UInt8) : (firstL R l : Int) ≤ R.mx ∧ (firstL R l < l.length → R.mn ≤ (firstL R l : Int)) := by
  have hp := R.ok_parts h
  unfold firstL
  rw [if_pos h]
  split
  · rename_i hn
    exact ⟨by omega, fun h => absurd h (Nat.lt_irrefl _)⟩
  · have hg := goF_le R ((l.take R.mx.toNat).drop R.mn.toNat) R.mn.toNat 0
    simp only [List.length_drop, List.length_take] at hg
    constructor
    · omega
    · intro _; omega
/-- A piece behind which something stands ends there, whatever that is. -/
theorem firstL_more {R : RuleN} (h : R.ok = true) (l more : List UInt8) (hlt : firstL R l < l.length) : firstL R (l.take (firstL R l) ++ more) = firstL R l := by
  have hp := R.ok_parts h
  have hb := firstL_bound h l
  obtain ⟨n, hn⟩ : ∃ n, n = firstL R l := ⟨_, rfl⟩
  rw [← hn] at hlt hb ⊢
  have hmn := hb.2 hlt
  have hnl : ¬ ((l.length : Int) ≤ R.mn) := by omega
  have hf : firstL R l = goF R R.mn.toNat 0 ((l.take R.mx.toNat).drop R.mn.toNat) := by unfold firstL; rw [if_pos h, if_neg hnl]
  rw [hf] at hn
  have hlen : (l.take n ++ more).length = n + more.length := by rw [List.length_append, List.length_take]; omega
  have key : ∀ m2 : List UInt8, n < R.mn.toNat + ((l.take R.mx.toNat).drop R.mn.toNat).length → goF R R.mn.toNat 0 (((l.take n ++ m2).take R.mx.toNat).drop R.mn.toNat) = n := by
    intro m2 hc
    have h1 := goF_more R _ _ _ n ((m2.take (R.mx.toNat - n))) hn.symm hc
    rw [← List.drop_take] at h1
    rw [List.take_append, List.drop_append, List.take_take, Nat.min_eq_right (by omega), List.length_take]
    rw [List.take_take, Nat.min_eq_left (by omega)] at h1
    rw [show min n l.length = n by omega, show R.mn.toNat - n = 0 by omega, List.drop_zero]
    exact h1
  unfold firstL
  rw [if_pos h]
  split
  · rename_i hs
    omega
  · rename_i hs
    simp only [List.length_drop, List.length_take] at key
    by_cases hc : n < R.mn.toNat + (min R.mx.toNat l.length - R.mn.toNat)
    · exact key more hc
    · have hnx : n = R.mx.toNat := by omega
      have e : (l.take n ++ more).take R.mx.toNat = l.take R.mx.toNat := by
        rw [← hnx, List.take_append, List.take_take, List.length_take, Nat.min_self, show n - min n l.length = 0 by omega, List.take_zero, List.append_nil]
      rw [e]
      exact hn.symm
/-- A piece by itself is one piece. -/
theorem firstL_self {R : RuleN} (l : List UInt8) : firstL R (l.take (firstL R l)) = firstL R l := by
  by_cases h : R.ok = true
  · rcases Nat.lt_or_ge (firstL R l) l.length with hlt | hge
    · have := firstL_more h l [] hlt
      rwa [List.append_nil] at this
    · have e : firstL R l = l.length := Nat.le_antisymm (firstL_le R l) hge
      rw [e, List.take_length, e]
  · have e : ∀ x : List UInt8, firstL R x = x.length := fun x => by unfold firstL; rw [if_neg h]
    rw [e, e, List.take_length]

/-- The cuts of bytes, the first one beginning at a place. -/
def cutL (R : RuleN) (at' : Nat) (l : List UInt8) : List (Int × Int) :=
  if _h : l = [] then [] else ((at' : Int), ((at' + firstL R l : Nat) : Int)) :: cutL R (at' + firstL R l) (l.drop (firstL R l))
termination_by l.length
decreasing_by
  have := firstL_pos R l _h
  have : 1 ≤ l.length := by
    cases l
    · exact absurd rfl _h
    · simp
  rw [List.length_drop]
  omega
theorem cutL_nil (R : RuleN) (a : Nat) : cutL R a [] = [] := by rw [cutL]; simp
theorem cutL_cons (R : RuleN) (a : Nat) (l : List UInt8) (h : l ≠ []) : cutL R a l = ((a : Int), ((a + firstL R l : Nat) : Int)) :: cutL R (a + firstL R l) (l.drop (firstL R l)) := by
  rw [cutL, dif_neg h]
theorem len_pos {l : List UInt8} (h : l ≠ []) : 1 ≤ l.length := by
  cases l
  · exact absurd rfl h
  · simp
/-- Induction over what is left. -/
theorem cut_ind {P : Nat → List UInt8 → Prop} (R : RuleN) (h0 : ∀ a, P a []) (h1 : ∀ a l, l ≠ [] → P (a + firstL R l) (l.drop (firstL R l)) → P a l) : ∀ a l, P a l := by
  have key : ∀ n a l, l.length ≤ n → P a l := by
    intro n
    induction n with
    | zero =>
      intro a l hl
      have : l = [] := List.eq_nil_of_length_eq_zero (by omega)
      subst this
      exact h0 a
    | succ n ih =>
      intro a l hl
      by_cases h : l = []
      · subst h; exact h0 a
      · refine h1 a l h (ih _ _ ?_)
        have := firstL_pos R l h
        have := len_pos h
        rw [List.length_drop]
        omega
  exact fun a l => key l.length a l (Nat.le_refl _)
theorem cutL_few (R : RuleN) : ∀ a l, (cutL R a l).length ≤ l.length := by
  refine cut_ind R (fun a => ?_) (fun a l h ih => ?_)
  · rw [cutL_nil]; simp
  · rw [cutL_cons R a l h]
    have := firstL_pos R l h
    have := len_pos h
    rw [List.length_drop] at ih
    simp only [List.length_cons]
    omega
theorem cutL_empty {R : RuleN} {a : Nat} {l : List UInt8} (h : cutL R a l = []) : l = [] := by
  by_cases hl : l = []
  · exact hl
  · rw [cutL_cons R a l hl] at h; cases h
/-- What stands at a place among the cuts: where it begins, and what is left there. -/
theorem cutL_at (R : RuleN) (a : Nat) (l : List UInt8) : ∀ i x0 x1, (cutL R a l)[i]? = some (x0, x1) → ∃ f : Nat, x0 = ((a + f : Nat) : Int) ∧ f < l.length ∧ x1 = ((a + f + firstL R (l.drop f) : Nat) : Int) ∧ (cutL R a l).drop i = cutL R (a + f) (l.drop f) := by
  refine cut_ind R (P := fun a l => ∀ i x0 x1, (cutL R a l)[i]? = some (x0, x1) → ∃ f : Nat, x0 = ((a + f : Nat) : Int) ∧ f < l.length ∧ x1 = ((a + f + firstL R (l.drop f) : Nat) : Int) ∧ (cutL R a l).drop i = cutL R (a + f) (l.drop f)) (fun a => ?_) (fun a l h ih => ?_) a l
  · intro i x0 x1 hx; rw [cutL_nil] at hx; simp at hx
  · intro i x0 x1 hx
    have hp := firstL_pos R l h
    have hle := firstL_le R l
    cases i with
    | zero =>
      rw [cutL_cons R a l h] at hx
      simp only [List.getElem?_cons_zero, Option.some.injEq, Prod.mk.injEq] at hx
      refine ⟨0, by simpa using hx.1.symm, len_pos h, by simpa using hx.2.symm, by simp⟩
    | succ i =>
      rw [cutL_cons R a l h, List.getElem?_cons_succ] at hx
      obtain ⟨f, e0, e1, e2, e3⟩ := ih i x0 x1 hx
      rw [List.length_drop] at e1
      rw [List.drop_drop] at e2 e3
      refine ⟨firstL R l + f, by rw [e0]; omega, by omega, by rw [e2]; omega, ?_⟩
      rw [cutL_cons R a l h, List.drop_succ_cons, e3, Nat.add_assoc]
/-- The cuts of what is left hang on nothing but it. -/
theorem cutL_shift (R : RuleN) (d : Nat) : ∀ a l, cutL R (a + d) l = (cutL R a l).map fun x => (x.1 + (d : Int), x.2 + (d : Int)) := by
  refine cut_ind R (fun a => ?_) (fun a l h ih => ?_)
  · rw [cutL_nil, cutL_nil]; rfl
  · rw [cutL_cons R (a + d) l h, cutL_cons R a l h, List.map_cons, ← ih, Nat.add_right_comm a d]
    congr 1
/-- All of it, in whole spans. -/
theorem cutL_whole (R : RuleN) : ∀ a l, (cutL R a l).foldl wstep (some (a : Int)) = some ((a + l.length : Nat) : Int) := by
  refine cut_ind R (fun a => ?_) (fun a l h ih => ?_)
  · rw [cutL_nil]; simp
  · rw [cutL_cons R a l h, List.foldl_cons]
    have hp := firstL_pos R l h
    have hle := firstL_le R l
    have e : wstep (some (a : Int)) ((a : Int), ((a + firstL R l : Nat) : Int)) = some ((a + firstL R l : Nat) : Int) := by
      unfold wstep
      simp only [Option.bind_some]
      rw [if_neg (by omega)]
    rw [e, ih, List.length_drop]
    congr 2
    omega
theorem cutL_wholeB (R : RuleN) (l : List UInt8) : wholeB (l.length : Int) (cutL R 0 l) = true := by
  have h := cutL_whole R 0 l
  rw [Nat.zero_add] at h
  have h2 : (cutL R 0 l).foldl wstep (some 0) = some (l.length : Int) := h
  unfold wholeB wholeEnd
  rw [h2]
  simp
/-- A piece behind which another one stands is not all that is left. -/
theorem cutL_next {R : RuleN} {a : Nat} {l : List UInt8} {i f : Nat} (hd : (cutL R a l).drop i = cutL R (a + f) (l.drop f)) (hi : i + 1 < (cutL R a l).length) : firstL R (l.drop f) < (l.drop f).length := by
  rcases Nat.lt_or_ge (firstL R (l.drop f)) (l.drop f).length with h | h
  · exact h
  · exfalso
    have hne : l.drop f ≠ [] := by
      intro e
      rw [e, cutL_nil] at hd
      have := congrArg List.length hd
      rw [List.length_drop, List.length_nil] at this
      omega
    rw [cutL_cons R _ _ hne, List.drop_eq_nil_of_le h, cutL_nil] at hd
    have := congrArg List.length hd
    rw [List.length_drop] at this
    simp at this
    omega
/-- Each piece's length. -/
theorem cutL_lens {R : RuleN} (h : R.ok = true) {l : List UInt8} {i : Nat} {x0 x1 : Int} (hx : (cutL R 0 l)[i]? = some (x0, x1)) : x1 - x0 ≤ R.mx ∧ (i + 1 < (cutL R 0 l).length → R.mn ≤ x1 - x0) := by
  obtain ⟨f, e0, e1, e2, e3⟩ := cutL_at R 0 l i x0 x1 hx
  have hb := firstL_bound h (l.drop f)
  have e : x1 - x0 = (firstL R (l.drop f) : Int) := by omega
  rw [e]
  exact ⟨hb.1, fun hi => hb.2 (cutL_next e3 hi)⟩
/-- Where two texts share what is left, they share the cuts. -/
theorem cutL_meet (R : RuleN) (a b s : List UInt8) (i k : Nat) (x0 x1 y0 y1 : Int) (hx : (cutL R 0 (a ++ s))[i]? = some (x0, x1)) (hy : (cutL R 0 (b ++ s))[k]? = some (y0, y1))
    (hpq : (a.length : Int) + (s.length : Int) - x0 = (b.length : Int) + (s.length : Int) - y0) (hps : (a.length : Int) + (s.length : Int) - x0 ≤ (s.length : Int)) :
    (cutL R 0 (b ++ s)).drop k = ((cutL R 0 (a ++ s)).drop i).map fun x => (x.1 + (y0 - x0), x.2 + (y0 - x0)) := by
  obtain ⟨f, e0, e1, e2, e3⟩ := cutL_at R 0 _ i x0 x1 hx
  obtain ⟨g, d0, d1, d2, d3⟩ := cutL_at R 0 _ k y0 y1 hy
  rw [Nat.zero_add] at e0 e3 d0 d3
  have hf : a.length ≤ f := by omega
  have hg : b.length ≤ g := by omega
  have ef : (a ++ s).drop f = s.drop (f - a.length) := by rw [List.drop_append, List.drop_eq_nil_of_le hf, List.nil_append]
  have eg : (b ++ s).drop g = s.drop (f - a.length) := by rw [List.drop_append, List.drop_eq_nil_of_le hg, List.nil_append]; congr 1; omega
  rw [e3, d3, ef, eg]
  have s1 := cutL_shift R f 0 (s.drop (f - a.length))
  have s2 := cutL_shift R g 0 (s.drop (f - a.length))
  rw [Nat.zero_add] at s1 s2
  rw [s1, s2, List.map_map]
  apply List.map_congr_left
  intro x _
  simp only [Function.comp]
  rw [e0, d0]
  ext <;> simp <;> omega
/-- What is cut ahead of a cut is cut so whatever stands behind. -/
theorem cutL_prefix {R : RuleN} (h : R.ok = true) (more : List UInt8) : ∀ (a : Nat) (s : List UInt8) (i f : Nat) (x1 : Int), (cutL R a s)[i]? = some (((a + f : Nat) : Int), x1) → cutL R a (s.take f ++ more) = (cutL R a s).take i ++ cutL R (a + f) more := by
  refine cut_ind R (P := fun a s => ∀ (i f : Nat) (x1 : Int), (cutL R a s)[i]? = some (((a + f : Nat) : Int), x1) → cutL R a (s.take f ++ more) = (cutL R a s).take i ++ cutL R (a + f) more) (fun a => ?_) (fun a s hs ih => ?_)
  · intro i f x1 hx; rw [cutL_nil] at hx; simp at hx
  · intro i f x1 hx
    have hp := firstL_pos R s hs
    have hle := firstL_le R s
    obtain ⟨f', e0, e1, e2, e3⟩ := cutL_at R a s i _ _ hx
    have hff : f' = f := by omega
    subst hff
    cases i with
    | zero =>
      rw [cutL_cons R a s hs] at hx
      simp only [List.getElem?_cons_zero, Option.some.injEq, Prod.mk.injEq] at hx
      have : f' = 0 := by omega
      subst this
      simp
    | succ i =>
      rw [cutL_cons R a s hs, List.getElem?_cons_succ] at hx
      obtain ⟨g, d0, d1, d2, d3⟩ := cutL_at R _ _ i _ _ hx
      rw [List.length_drop] at d1
      obtain rfl : f' = firstL R s + g := by omega
      have hlt : firstL R s < s.length := by omega
      have esp : s.take (firstL R s + g) ++ more = s.take (firstL R s) ++ ((s.drop (firstL R s)).take g ++ more) := by
        rw [List.take_add, List.append_assoc]
      have hne : s.take (firstL R s) ++ ((s.drop (firstL R s)).take g ++ more) ≠ [] := by
        intro e
        have := congrArg List.length e
        simp only [List.length_append, List.length_take, List.length_nil] at this
        omega
      have hfm := firstL_more h s ((s.drop (firstL R s)).take g ++ more) hlt
      have hdr : (s.take (firstL R s) ++ ((s.drop (firstL R s)).take g ++ more)).drop (firstL R s) = (s.drop (firstL R s)).take g ++ more := by
        rw [List.drop_append, List.drop_eq_nil_of_le (by rw [List.length_take]; omega), List.nil_append, List.length_take, show firstL R s - min (firstL R s) s.length = 0 by omega, List.drop_zero]
      rw [esp, cutL_cons R a _ hne, hfm, hdr, ih i g x1 (by rw [← Nat.add_assoc] at hx; exact hx), cutL_cons R a s hs, List.take_succ_cons, List.cons_append, Nat.add_assoc]
/-- Bytes that end at a cut, twice: their cuts twice. -/
theorem cutL_twice {R : RuleN} (h : R.ok = true) (s : List UInt8) (n f : Nat) (x1 : Int) (hx : (cutL R 0 s)[n]? = some ((f : Int), x1)) :
    cutL R 0 (s.take f ++ s.take f) = (cutL R 0 s).take n ++ ((cutL R 0 s).take n).map fun x => (x.1 + (f : Int), x.2 + (f : Int)) := by
  have h1 := cutL_prefix h (s.take f) 0 s n f x1 (by rw [Nat.zero_add]; exact hx)
  have h2 := cutL_prefix h [] 0 s n f x1 (by rw [Nat.zero_add]; exact hx)
  rw [List.append_nil, cutL_nil, List.append_nil] at h2
  rw [h1]
  have h3 := cutL_shift R f 0 (s.take f)
  rw [h3, h2]
end Go.Proofs.Ytkcjiogackkecaa
