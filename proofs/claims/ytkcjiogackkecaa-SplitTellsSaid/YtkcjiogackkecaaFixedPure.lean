/-
  Package fixed in plain words: what Cut, Join, Whole and Touch answer. No statement is proved here.
-/
import Derived.Test.YtkcjiogackkecaaTxts
namespace Go.Proofs.Ytkcjiogackkecaa
open Go.RowKit

/-- The first j spans of m bytes each, out of so many. -/
def cutJ (m size j : Nat) : List (Int × Int) := (List.range j).map fun k => (((k * m : Nat) : Int), ((min (k * m + m) size : Nat) : Int))
theorem cutJ_len (m size j : Nat) : (cutJ m size j).length = j := by simp [cutJ]
theorem cutJ_snoc (m size j : Nat) : cutJ m size (j + 1) = cutJ m size j ++ [(((j * m : Nat) : Int), ((min (j * m + m) size : Nat) : Int))] := by simp [cutJ, List.range_succ]
theorem cutJ_get {m size j k : Nat} (h : k < j) : (cutJ m size j)[k]? = some (((k * m : Nat) : Int), ((min (k * m + m) size : Nat) : Int)) := by
  unfold cutJ
  rw [List.getElem?_map, List.getElem?_range h]
  rfl
/-- How many there are. -/
def manyOf (m size : Nat) : Nat := (size + m - 1) / m
theorem many_of {m size j x : Nat} (hm : 1 ≤ m) (hx : x = j * m) (h1 : size ≤ x) (h2 : j = 0 ∨ x < size + m) : j = manyOf m size := by
  unfold manyOf
  symm
  apply Nat.div_eq_of_lt_le
  · rw [← hx]
    rcases h2 with rfl | h2
    · omega
    · omega
  · rw [Nat.add_mul, ← hx]; omega
theorem many_lt {m size k : Nat} (hm : 1 ≤ m) (h : k < manyOf m size) : k * m < size := by
  unfold manyOf at h
  have := (Nat.le_div_iff_mul_le (by omega : 0 < m)).1 (Nat.succ_le_of_lt h)
  rw [Nat.succ_mul] at this
  omega
theorem many_le {m size : Nat} (hm : 1 ≤ m) : size ≤ manyOf m size * m := by
  unfold manyOf
  have h1 := Nat.div_add_mod (size + m - 1) m
  have h2 := Nat.mod_lt (size + m - 1) (by omega : m > 0)
  rw [Nat.mul_comm] at h1
  omega
theorem many_few {m size : Nat} (hm : 1 ≤ m) : manyOf m size ≤ size := by
  unfold manyOf
  rcases Nat.eq_zero_or_pos size with h | h
  · subst h; rw [Nat.div_eq_of_lt (by omega)]; exact Nat.le_refl _
  · refine Nat.div_le_of_le_mul ?_
    have : size * 1 + (m - 1) * 1 ≤ size * 1 + (m - 1) * size := Nat.add_le_add_left (Nat.mul_le_mul_left _ h) _
    have e : m * size = size * 1 + (m - 1) * size := by
      obtain ⟨q, rfl⟩ : ∃ q, m = q + 1 := ⟨m - 1, by omega⟩
      rw [Nat.add_mul]; simp; omega
    omega
/-- What Cut answers. -/
def cutS (n : Int) (size : Nat) : List (Int × Int) := if n < 1 then [] else cutJ n.toNat size (manyOf n.toNat size)

/-- One more span: where it ends, if it goes on from there. -/
def wstep (o : Option Int) (x : Int × Int) : Option Int := o.bind fun a => if x.1 ≠ a ∨ x.2 ≤ a then none else some x.2
def wholeEnd (l : List (Int × Int)) : Option Int := l.foldl wstep (some 0)
def wholeB (n : Int) (l : List (Int × Int)) : Bool := wholeEnd l == some n
theorem wfold_none (l : List (Int × Int)) : l.foldl wstep none = none := by
  induction l with
  | nil => rfl
  | cons x r ih => exact ih
theorem wholeEnd_snoc {l : List (Int × Int)} {j : Nat} {x : Int × Int} (h : l[j]? = some x) : wholeEnd (l.take (j + 1)) = wstep (wholeEnd (l.take j)) x := by
  unfold wholeEnd
  rw [List.take_add_one, h, List.foldl_append]
  rfl
theorem wholeEnd_none {l : List (Int × Int)} {j : Nat} (h : wholeEnd (l.take j) = none) : wholeEnd l = none := by
  have e : wholeEnd l = (l.drop j).foldl wstep (wholeEnd (l.take j)) := by
    unfold wholeEnd
    rw [← List.foldl_append, List.take_append_drop]
  rw [e, h, wfold_none]
theorem cutJ_end (m size : Nat) (hm : 1 ≤ m) (j : Nat) (h : j = 0 ∨ (j - 1) * m < size) : wholeEnd (cutJ m size j) = some ((min (j * m) size : Nat) : Int) := by
  induction j with
  | zero => simp [cutJ, wholeEnd]
  | succ j ih =>
    have h1 : j * m < size := by rcases h with h | h; · omega
                                 · simpa using h
    have h0 : j = 0 ∨ (j - 1) * m < size := by
      rcases Nat.eq_zero_or_pos j with e | e
      · exact .inl e
      · right
        have : (j - 1) * m ≤ j * m := Nat.mul_le_mul_right _ (by omega)
        omega
    have hs : wholeEnd (cutJ m size (j + 1)) = wstep (wholeEnd (cutJ m size j)) (((j * m : Nat) : Int), ((min (j * m + m) size : Nat) : Int)) := by
      rw [cutJ_snoc]
      unfold wholeEnd
      rw [List.foldl_append]
      rfl
    rw [hs, ih h0]
    unfold wstep
    rw [Nat.add_mul, Nat.one_mul]
    obtain ⟨x, hx⟩ : ∃ x, x = j * m := ⟨_, rfl⟩
    rw [← hx] at h1 ⊢
    have e1 : min x size = x := by omega
    rw [e1]
    simp only [Option.bind_some]
    rw [if_neg (by omega)]
theorem cutS_whole (n : Int) (size : Nat) (hn : 1 ≤ n) : wholeEnd (cutS n size) = some (size : Int) := by
  unfold cutS
  rw [if_neg (by omega)]
  have hm : 1 ≤ n.toNat := by omega
  rw [cutJ_end n.toNat size hm _ ?_]
  · have := many_le (m := n.toNat) (size := size) hm
    rw [Nat.min_eq_right this]
  · rcases Nat.eq_zero_or_pos (manyOf n.toNat size) with e | e
    · exact .inl e
    · exact .inr (many_lt hm (by omega))

/-- One more span that is looked at: the first one that is touched, and that behind the last one. -/
def tstep (a b : Int) (s : Int × Int) (k : Nat) (x : Int × Int) : Int × Int := if max x.1 a ≥ min x.2 b then s else (if s.2 = 0 then (k : Int) else s.1, (k : Int) + 1)
def touchTo (l : List (Int × Int)) (a b : Int) : Nat → Int × Int
  | 0 => (0, 0)
  | j + 1 => match l[j]? with
    | some x => tstep a b (touchTo l a b j) j x
    | none => touchTo l a b j
theorem touchTo_snoc {l : List (Int × Int)} {a b : Int} {j : Nat} {x : Int × Int} (h : l[j]? = some x) : touchTo l a b (j + 1) = tstep a b (touchTo l a b j) j x := by
  show (match l[j]? with | some x => tstep a b (touchTo l a b j) j x | none => touchTo l a b j) = _
  rw [h]
def touchedB (a b : Int) (x : Int × Int) : Bool := decide (max x.1 a < min x.2 b)
theorem tstep_eq (a b : Int) (s : Int × Int) (k : Nat) (x : Int × Int) : tstep a b s k x = if touchedB a b x = true then (if s.2 = 0 then (k : Int) else s.1, (k : Int) + 1) else s := by
  unfold tstep touchedB
  by_cases h : max x.1 a < min x.2 b
  · rw [if_neg (by omega), decide_eq_true h]
    rfl
  · rw [if_pos (by omega), decide_eq_false h]
    rfl
/-- What Touch has found behind j spans. -/
theorem touch_inv (l : List (Int × Int)) (a b : Int) (j : Nat) (hj : j ≤ l.length) :
    (touchTo l a b j = (0, 0) ∧ ∀ (i : Nat) (x : Int × Int), i < j → l[i]? = some x → touchedB a b x = false) ∨
    ∃ f e : Nat, touchTo l a b j = ((f : Int), (e : Int) + 1) ∧ f ≤ e ∧ e < j ∧ (∀ x, l[f]? = some x → touchedB a b x = true) ∧ (∀ x, l[e]? = some x → touchedB a b x = true) ∧
      (∀ (i : Nat) (x : Int × Int), i < f → l[i]? = some x → touchedB a b x = false) ∧ (∀ (i : Nat) (x : Int × Int), e < i → i < j → l[i]? = some x → touchedB a b x = false) := by
  induction j with
  | zero => exact .inl ⟨rfl, fun i x h => by omega⟩
  | succ j ih =>
    obtain ⟨x, hx⟩ : ∃ x, l[j]? = some x := ⟨l[j]'(by omega), List.getElem?_eq_getElem _⟩
    rw [touchTo_snoc hx, tstep_eq]
    cases ht : touchedB a b x with
    | false =>
      rw [if_neg (by simp)]
      rcases ih (by omega) with ⟨h1, h2⟩ | ⟨f, e, h1, h2, h3, h4, h5, h6, h7⟩
      · refine .inl ⟨h1, fun i y hi hy => ?_⟩
        rcases Nat.lt_or_ge i j with h | h
        · exact h2 i y h hy
        · obtain rfl : i = j := by omega
          rw [hx] at hy; cases hy; exact ht
      · refine .inr ⟨f, e, h1, h2, by omega, h4, h5, h6, fun i y hi hj hy => ?_⟩
        rcases Nat.lt_or_ge i j with h | h
        · exact h7 i y hi h hy
        · obtain rfl : i = j := by omega
          rw [hx] at hy; cases hy; exact ht
    | true =>
      rw [if_pos rfl]
      have hxx : ∀ y, l[j]? = some y → touchedB a b y = true := fun y hy => by rw [hx] at hy; cases hy; exact ht
      rcases ih (by omega) with ⟨h1, h2⟩ | ⟨f, e, h1, h2, h3, h4, h5, h6, h7⟩
      · rw [h1]
        exact .inr ⟨j, j, rfl, Nat.le_refl _, by omega, hxx, hxx, fun i y hi hy => h2 i y hi hy, fun i y h1 h2 => by omega⟩
      · rw [h1]
        refine .inr ⟨f, j, ?_, by omega, by omega, h4, hxx, h6, fun i y h1 h2 => by omega⟩
        simp only
        rw [if_neg (by omega)]
theorem touch_bounds (l : List (Int × Int)) (a b : Int) (j : Nat) (hj : j ≤ l.length) : 0 ≤ (touchTo l a b j).1 ∧ (touchTo l a b j).1 ≤ (touchTo l a b j).2 ∧ (touchTo l a b j).2 ≤ j := by
  rcases touch_inv l a b j hj with ⟨h1, _⟩ | ⟨f, e, h1, h2, h3, _⟩
  · rw [h1]; simp
  · rw [h1]; simp only; omega

/-- A span within so many bytes. -/
def okSp (n : Nat) (x : Int × Int) : Bool := decide (0 ≤ x.1 ∧ x.1 ≤ x.2 ∧ x.2 ≤ (n : Int))
def partB (s : ByteArray) (x : Int × Int) : ByteArray := s.extract x.1.toNat x.2.toNat
def joinL (s : ByteArray) (l : List (Int × Int)) : List UInt8 := l.flatMap fun x => (partB s x).data.toList
theorem joinL_snoc {s : ByteArray} {l : List (Int × Int)} {j : Nat} {x : Int × Int} (h : l[j]? = some x) : joinL s (l.take (j + 1)) = joinL s (l.take j) ++ (partB s x).data.toList := by
  unfold joinL
  rw [List.take_add_one, h, List.flatMap_append]
  simp
theorem partB_size (s : ByteArray) (x : Int × Int) : (partB s x).size ≤ s.size := by
  unfold partB
  rw [ByteArray.size_extract]
  omega
theorem joinL_len (s : ByteArray) (l : List (Int × Int)) : (joinL s l).length ≤ l.length * s.size := by
  induction l with
  | nil => simp [joinL]
  | cons x r ih =>
    have e : joinL s (x :: r) = (partB s x).data.toList ++ joinL s r := by simp [joinL]
    have h := partB_size s x
    rw [Lib.size_eq] at h
    rw [e, List.length_append, List.length_cons, Nat.add_mul]
    omega
theorem joinL_cut (s : ByteArray) (m : Nat) (hm : 1 ≤ m) (j : Nat) (h : j = 0 ∨ (j - 1) * m < s.size) : joinL s (cutJ m s.size j) = s.data.toList.take (min (j * m) s.size) := by
  induction j with
  | zero => simp [joinL, cutJ]
  | succ j ih =>
    have h1 : j * m < s.size := by rcases h with h | h; · omega
                                   · simpa using h
    have h0 : j = 0 ∨ (j - 1) * m < s.size := by
      rcases Nat.eq_zero_or_pos j with e | e
      · exact .inl e
      · right
        have : (j - 1) * m ≤ j * m := Nat.mul_le_mul_right _ (by omega)
        omega
    have e : joinL s (cutJ m s.size (j + 1)) = joinL s (cutJ m s.size j) ++ (partB s (((j * m : Nat) : Int), ((min (j * m + m) s.size : Nat) : Int))).data.toList := by
      rw [cutJ_snoc]
      unfold joinL
      rw [List.flatMap_append]
      simp
    rw [e, ih h0, Nat.add_mul, Nat.one_mul]
    obtain ⟨x, hx⟩ : ∃ x, x = j * m := ⟨_, rfl⟩
    rw [← hx] at h1 ⊢
    unfold partB
    simp only [Int.toNat_natCast]
    rw [ByteArray.data_extract, Array.toList_extract, List.extract_eq_take_drop]
    have e1 : min x s.size = x := by omega
    rw [e1]
    obtain ⟨y, hy⟩ : ∃ y, min (x + m) s.size = x + y := ⟨min (x + m) s.size - x, by omega⟩
    rw [hy, Nat.add_sub_cancel_left, List.take_add]
theorem cutJ_ok {m size j : Nat} (h : j = 0 ∨ (j - 1) * m < size) : (cutJ m size j).all (okSp size) = true := by
  rw [List.all_eq_true]
  intro x hx
  unfold cutJ at hx
  obtain ⟨k, hk, rfl⟩ := List.mem_map.1 hx
  rw [List.mem_range] at hk
  have h1 : k * m < size := by
    rcases h with h | h
    · omega
    · have : k * m ≤ (j - 1) * m := Nat.mul_le_mul_right _ (by omega)
      omega
  unfold okSp
  simp only [decide_eq_true_eq]
  omega
end Go.Proofs.Ytkcjiogackkecaa
