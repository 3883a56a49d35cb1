/-
  Cutting anew, as plain data: an edit of a text; that few pieces are looked for; what stands ahead of an edit. No statement is proved here.
-/
import Derived.Test.YtkcjiogackkecaaSplitSearch
namespace Go.Proofs.Ytkcjiogackkecaa

theorem again_edit {R : RuleN} (hR : R.ok = true) (s W : List UInt8) (f c : Nat) (hf : f + c ≤ s.length) :
    (againL R (cutL R 0 s) (s.take f ++ W ++ s.drop (f + c)) (f : Int) ((f + W.length : Nat) : Int) ((W.length : Int) - (c : Int))).1 = cutL R 0 (s.take f ++ W ++ s.drop (f + c)) := by
  have h := congrArg Prod.fst (again_right hR (s.take f) ((s.drop f).take c) W (s.drop (f + c)))
  have e1 : s.take f ++ (s.drop f).take c ++ s.drop (f + c) = s := by
    rw [List.append_assoc, ← List.drop_drop, List.take_append_drop, List.take_append_drop]
  have e2 : (s.take f).length = f := by rw [List.length_take]; omega
  have e3 : ((s.drop f).take c).length = c := by rw [List.length_take, List.length_drop]; omega
  rw [e1, e2, e3] at h
  exact h
theorem mend_one {R : RuleN} {o s : List UInt8} {k f : Nat} {x1 t : Int} (hx : (cutL R 0 o)[k]? = some ((f : Int), x1)) (hlen : s.length = o.length) (hF : firstL R (s.drop f) = firstL R (o.drop f)) (ht : t ≤ x1) :
    (mendL R (cutL R 0 o) t 0 f (s.drop f)).2 ≤ 1 := by
  obtain ⟨f', e0, e1, e2, e3⟩ := cutL_at R 0 o k _ x1 hx
  have hff : f' = f := by omega
  subst hff
  have hne : ∀ l : List UInt8, l.length = o.length → l.drop f' ≠ [] := by
    intro l hl h
    have := congrArg List.length h
    rw [List.length_drop, List.length_nil] at this
    omega
  cases hm : meetS (cutL R 0 o) t 0 f' with
  | some k' => rw [mendL_some (hne s hlen) hm]; exact Nat.zero_le _
  | none =>
    rw [mendL_none (hne s hlen) hm]
    simp only
    by_cases hd : s.drop (f' + firstL R (s.drop f')) = []
    · rw [List.drop_drop, hd, mendL_nil]; exact Nat.le_refl _
    · rw [hF] at hd ⊢
      have hlt : f' + firstL R (o.drop f') < o.length := by
        rcases Nat.lt_or_ge (f' + firstL R (o.drop f')) o.length with h | h
        · exact h
        · exact absurd (List.drop_eq_nil_of_le (by omega)) hd
      have hne2 : o.drop (f' + firstL R (o.drop f')) ≠ [] := by
        intro h
        have := congrArg List.length h
        rw [List.length_drop, List.length_nil] at this
        omega
      rw [cutL_cons R _ _ (hne o rfl), List.drop_drop, cutL_cons R _ _ hne2] at e3
      have h1 : (cutL R 0 o)[k + 1]? = some (((0 + f' + firstL R (o.drop f') : Nat) : Int), ((0 + f' + firstL R (o.drop f') + firstL R (o.drop (f' + firstL R (o.drop f'))) : Nat) : Int)) := by
        have h := congrArg (fun l : List (Int × Int) => l[1]?) e3
        simp only [List.getElem?_drop] at h
        rw [h]
        rfl
      have h2 : ∃ j, meetS (cutL R 0 o) t 0 (f' + firstL R (o.drop f')) = some j := by
        unfold meetS
        rw [if_pos (by omega)]
        cases hfd : findS (cutL R 0 o) (((f' + firstL R (o.drop f') : Nat) : Int) - 0) with
        | some j => exact ⟨j, rfl⟩
        | none =>
          exfalso
          refine findS_none hfd _ _ h1 ?_
          simp only
          omega
      obtain ⟨j, hj⟩ := h2
      rw [List.drop_drop, mendL_some hd hj]
      exact Nat.le_refl _
theorem stayAt_end {R : RuleN} {o : List UInt8} {k : Nat} (hk : (cutL R 0 o).length = k) : o.drop (stayAt (cutL R 0 o) k).toNat = [] := by
  rcases Nat.eq_zero_or_pos k with h | h
  · have hn : cutL R 0 o = [] := List.eq_nil_of_length_eq_zero (by omega)
    rw [cutL_empty hn]
    simp
  · obtain ⟨j, rfl⟩ : ∃ j, k = j + 1 := ⟨k - 1, by omega⟩
    have hj := List.getElem?_eq_getElem (l := cutL R 0 o) (i := j) (by omega)
    have e : stayAt (cutL R 0 o) (j + 1) = ((cutL R 0 o)[j]).2 := by
      show ((((cutL R 0 o)[j]?).map (·.2)).getD 0) = _
      rw [hj]; rfl
    rw [e]
    obtain ⟨f, e0, e1, e2, e3⟩ := cutL_at R 0 o j ((cutL R 0 o)[j]).1 ((cutL R 0 o)[j]).2 hj
    have hne : o.drop f ≠ [] := by
      intro h
      have := congrArg List.length h
      rw [List.length_drop, List.length_nil] at this
      omega
    rw [cutL_cons R _ _ hne, List.drop_drop] at e3
    have hlen := congrArg List.length e3
    rw [List.length_drop, List.length_cons] at hlen
    have hz : cutL R (0 + f + firstL R (o.drop f)) (o.drop (f + firstL R (o.drop f))) = [] := List.eq_nil_of_length_eq_zero (by omega)
    have := cutL_empty hz
    have e5 : ((cutL R 0 o)[j]).2.toNat = f + firstL R (o.drop f) := by omega
    rw [e5]
    exact this
/-- Where nothing has changed, one piece at most is looked for. -/
theorem again_still {R : RuleN} (s : List UInt8) (a : Nat) (ha : a ≤ s.length) : (againL R (cutL R 0 s) s (a : Int) (a : Int) 0).2 ≤ 1 := by
  have hmay : mayB (cutL R 0 s) s.length (a : Int) (a : Int) 0 = true := by
    unfold mayB
    rw [Int.sub_zero, cutL_wholeB R s]
    simp
    omega
  have hst : stayN (cutL R 0 s) (a : Int) true = aheadN (cutL R 0 s) (a : Int) := by unfold stayN; rw [if_neg (by simp)]
  unfold againL
  rw [if_pos hmay, show (decide ((a : Int) = (a : Int)) && decide ((0 : Int) = 0)) = true by simp, hst]
  show (mendL R (cutL R 0 s) (a : Int) 0 (stayAt (cutL R 0 s) (aheadN (cutL R 0 s) (a : Int))).toNat (s.drop (stayAt (cutL R 0 s) (aheadN (cutL R 0 s) (a : Int))).toNat)).2 ≤ 1
  rcases Nat.lt_or_ge (aheadN (cutL R 0 s) (a : Int)) (cutL R 0 s).length with hlt | hge
  · obtain ⟨x0, x1, hx⟩ : ∃ x0 x1, (cutL R 0 s)[aheadN (cutL R 0 s) (a : Int)]? = some (x0, x1) := ⟨_, _, List.getElem?_eq_getElem hlt⟩
    rw [stayAt_begin hx]
    obtain ⟨f, e0, -, -, -⟩ := cutL_at R 0 s _ x0 x1 hx
    have h1 := take_while_end (fun x : Int × Int => decide (x.2 ≤ (a : Int))) (cutL R 0 s) _ hx
    simp at h1
    have ef : x0.toNat = f := by omega
    rw [ef]
    exact mend_one (x1 := x1) (by rw [hx, e0, Nat.zero_add]) rfl rfl (by omega)
  · have hle := aheadN_le (cutL R 0 s) (a : Int)
    rw [stayAt_end (by omega), mendL_nil]
    exact Nat.zero_le _
/-- Of pieces of 64 bytes one at most is looked for behind one byte that was changed. -/
theorem again_byte (s b : List UInt8) (k : Nat) (hk : k < s.length) (hb : b.length = s.length) : (againL e64 (cutL e64 0 s) b (k : Int) ((k + 1 : Nat) : Int) 0).2 ≤ 1 := by
  have hmay : mayB (cutL e64 0 s) b.length (k : Int) ((k + 1 : Nat) : Int) 0 = true := by
    unfold mayB
    rw [Int.sub_zero, hb, cutL_wholeB e64 s]
    simp
    omega
  have hlt : aheadN (cutL e64 0 s) (k : Int) < (cutL e64 0 s).length := by
    rcases Nat.lt_or_ge (aheadN (cutL e64 0 s) (k : Int)) (cutL e64 0 s).length with h | h
    · exact h
    · exfalso
      obtain ⟨-, -, -, h4⟩ := wholeB_in (cutL_wholeB e64 s)
      have hne : cutL e64 0 s ≠ [] := by
        intro e
        have := cutL_empty e
        rw [this] at hk
        simp at hk
      obtain ⟨x, hx, hxe⟩ := h4 hne
      obtain ⟨j, hj⟩ := List.getElem?_of_mem hx
      have hjl : j < (cutL e64 0 s).length := by
        rcases Nat.lt_or_ge j (cutL e64 0 s).length with h' | h'
        · exact h'
        · rw [List.getElem?_eq_none h'] at hj; cases hj
      have := take_while_get (fun x : Int × Int => decide (x.2 ≤ (k : Int))) (cutL e64 0 s) j x (by unfold aheadN at h; omega) hj
      simp at this
      omega
  have hst : stayN (cutL e64 0 s) (k : Int) false = aheadN (cutL e64 0 s) (k : Int) := by unfold stayN; rw [if_neg (by omega)]
  unfold againL
  rw [if_pos hmay, show (decide ((k : Int) = ((k + 1 : Nat) : Int)) && decide ((0 : Int) = 0)) = false by simp; omega, hst]
  show (mendL e64 (cutL e64 0 s) ((k + 1 : Nat) : Int) 0 (stayAt (cutL e64 0 s) (aheadN (cutL e64 0 s) (k : Int))).toNat (b.drop (stayAt (cutL e64 0 s) (aheadN (cutL e64 0 s) (k : Int))).toNat)).2 ≤ 1
  obtain ⟨x0, x1, hx⟩ : ∃ x0 x1, (cutL e64 0 s)[aheadN (cutL e64 0 s) (k : Int)]? = some (x0, x1) := ⟨_, _, List.getElem?_eq_getElem hlt⟩
  rw [stayAt_begin hx]
  obtain ⟨f, e0, -, -, -⟩ := cutL_at e64 0 s _ x0 x1 hx
  have h1 := take_while_end (fun x : Int × Int => decide (x.2 ≤ (k : Int))) (cutL e64 0 s) _ hx
  simp at h1
  have ef : x0.toNat = f := by omega
  rw [ef]
  exact mend_one (x1 := x1) (by rw [hx, e0, Nat.zero_add]) hb (by rw [e64_first, e64_first, List.length_drop, List.length_drop, hb]) (by omega)
/-- What ends ahead of where a text was changed stays, but the last one. -/
theorem cut_ahead {R : RuleN} (hR : R.ok = true) {o s : List UInt8} {a i : Nat} {x : Int × Int} (hs : s.take a = o.take a) (hx : (cutL R 0 o)[i]? = some x) (hi : i + 1 < (cutL R 0 o).length) (hxa : x.2 ≤ (a : Int)) : (cutL R 0 s)[i]? = some x := by
  obtain ⟨y0, y1, hy⟩ : ∃ y0 y1, (cutL R 0 o)[i + 1]? = some (y0, y1) := ⟨_, _, List.getElem?_eq_getElem hi⟩
  obtain ⟨f, e0, -, -, -⟩ := cutL_at R 0 o (i + 1) y0 y1 hy
  have hl := cutL_link (x0 := x.1) (x1 := x.2) hx hy
  have ht : s.take f = o.take f := by
    have h := congrArg (List.take f) hs
    rw [List.take_take, List.take_take, Nat.min_eq_left (by omega)] at h
    exact h
  rw [cutL_same hR (k := i + 1) (f := f) (x1 := y1) (by rw [hy, e0, Nat.zero_add]) ht]
  rw [List.getElem?_append_left (by rw [List.length_take]; omega), List.getElem?_take, if_pos (by omega)]
  exact hx
end Go.Proofs.Ytkcjiogackkecaa
