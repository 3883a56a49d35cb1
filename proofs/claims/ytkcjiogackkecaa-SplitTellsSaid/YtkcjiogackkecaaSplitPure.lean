/-
  Cutting anew, as plain data: which old spans stay, what is looked for behind them, and that it is what the whole is cut into. No statement is proved here.
-/
import Derived.Test.YtkcjiogackkecaaCdcPure
namespace Go.Proofs.Ytkcjiogackkecaa

/-- The rule that cuts as pieces of 64 bytes do. -/
def e64 : RuleN := ⟨64, 64, 64, 0, 0⟩
theorem e64_ok : e64.ok = true := by decide
theorem e64_first (l : List UInt8) : firstL e64 l = min 64 l.length := by
  unfold firstL
  rw [if_pos e64_ok]
  by_cases h : l.length ≤ 64
  · rw [if_pos (by show (l.length : Int) ≤ 64; omega)]; omega
  · rw [if_neg (by show ¬ (l.length : Int) ≤ 64; omega)]
    have e : (l.take e64.mx.toNat).drop e64.mn.toNat = [] := List.drop_eq_nil_of_le (by rw [List.length_take]; show min 64 l.length ≤ 64; omega)
    rw [e]
    show 64 = _
    omega
theorem many_more {n : Nat} (h : 0 < n) : manyOf 64 n = manyOf 64 (n - min 64 n) + 1 := by unfold manyOf; omega
theorem cut64 : ∀ (a : Nat) (l : List UInt8), cutL e64 a l = (List.range (manyOf 64 l.length)).map fun k => (((a + k * 64 : Nat) : Int), ((a + min (k * 64 + 64) l.length : Nat) : Int)) := by
  refine cut_ind e64 (fun a => ?_) (fun a l h ih => ?_)
  · rw [cutL_nil]; rfl
  · have hl := len_pos h
    rw [cutL_cons e64 a l h, ih, e64_first, List.length_drop, many_more hl, List.range_succ_eq_map, List.map_cons, List.map_map]
    rw [List.cons.injEq]
    refine ⟨?_, ?_⟩
    · refine Prod.ext ?_ ?_ <;> simp only <;> omega
    · refine List.map_congr_left fun k hk => ?_
      rw [List.mem_range] at hk
      have h2 := many_lt (by omega : 1 ≤ 64) hk
      refine Prod.ext ?_ ?_ <;> simp only [Function.comp] <;> omega
theorem cutS_64 (l : List UInt8) : cutS 64 l.length = cutL e64 0 l := by
  rw [cut64]
  unfold cutS cutJ
  rw [if_neg (by omega)]
  refine List.map_congr_left fun k _ => ?_
  refine Prod.ext ?_ ?_ <;> simp

/-- Further on. -/
def shS (g : Int) (x : Int × Int) : Int × Int := (x.1 + g, x.2 + g)
theorem cutL_from (R : RuleN) (a b : Nat) (l : List UInt8) : (cutL R a l).map (shS ((b : Int) - (a : Int))) = cutL R b l := by
  have h1 := cutL_shift R a 0 l
  have h2 := cutL_shift R b 0 l
  rw [Nat.zero_add] at h1 h2
  rw [h1, h2, List.map_map]
  refine List.map_congr_left fun x _ => ?_
  refine Prod.ext ?_ ?_ <;> simp only [Function.comp, shS] <;> omega

/-- Where an old span begins at a place. -/
def findS (old : List (Int × Int)) (p : Int) : Option Nat := old.findIdx? (fun x => x.1 == p)
theorem findS_some {old : List (Int × Int)} {p : Int} {k : Nat} (h : findS old p = some k) : ∃ x1, old[k]? = some (p, x1) := by
  unfold findS at h
  rw [List.findIdx?_eq_some_iff_getElem] at h
  obtain ⟨hk, h1, _⟩ := h
  refine ⟨(old[k]).2, ?_⟩
  rw [List.getElem?_eq_getElem hk]
  have : (old[k]).1 = p := by simpa using h1
  rw [← this]
theorem findS_none {old : List (Int × Int)} {p : Int} (h : findS old p = none) : ∀ (k : Nat) (x : Int × Int), old[k]? = some x → x.1 ≠ p := by
  unfold findS at h
  rw [List.findIdx?_eq_none_iff] at h
  intro k x hx
  have := h x (List.mem_of_getElem? hx)
  simpa using this

/-- What is looked for, and which old spans stay behind it: from a place on, l being the bytes from there on. -/
def mendL (R : RuleN) (old : List (Int × Int)) (t g : Int) (at' : Nat) (l : List UInt8) : List (Int × Int) × Nat :=
  if _h : l = [] then ([], 0) else
    match (if t ≤ (at' : Int) then findS old ((at' : Int) - g) else none) with
    | some k => ((old.drop k).map (shS g), 0)
    | none => (((at' : Int), ((at' + firstL R l : Nat) : Int)) :: (mendL R old t g (at' + firstL R l) (l.drop (firstL R l))).1, (mendL R old t g (at' + firstL R l) (l.drop (firstL R l))).2 + 1)
termination_by l.length
decreasing_by
  all_goals
    have h1 := firstL_pos R l _h
    have h2 := len_pos _h
    rw [List.length_drop]
    omega
theorem mendL_nil (R : RuleN) (old : List (Int × Int)) (t g : Int) (a : Nat) : mendL R old t g a [] = ([], 0) := by rw [mendL]; simp
/-- Does an old span begin there? -/
def meetS (old : List (Int × Int)) (t g : Int) (a : Nat) : Option Nat := if t ≤ (a : Int) then findS old ((a : Int) - g) else none
theorem mendL_some {R : RuleN} {old : List (Int × Int)} {t g : Int} {a : Nat} {l : List UInt8} {k : Nat} (hl : l ≠ []) (h : meetS old t g a = some k) : mendL R old t g a l = ((old.drop k).map (shS g), 0) := by
  rw [mendL, dif_neg hl]
  unfold meetS at h
  rw [h]
theorem mendL_none {R : RuleN} {old : List (Int × Int)} {t g : Int} {a : Nat} {l : List UInt8} (hl : l ≠ []) (h : meetS old t g a = none) : mendL R old t g a l = (((a : Int), ((a + firstL R l : Nat) : Int)) :: (mendL R old t g (a + firstL R l) (l.drop (firstL R l))).1, (mendL R old t g (a + firstL R l) (l.drop (firstL R l))).2 + 1) := by
  rw [mendL, dif_neg hl]
  unfold meetS at h
  rw [h]
/-- Where what stays is right, all is. -/
theorem mendL_right (R : RuleN) (old : List (Int × Int)) (t g : Int) (s : List UInt8)
    (H : ∀ (a k : Nat) (x1 : Int), t ≤ (a : Int) → s.drop a ≠ [] → old[k]? = some ((a : Int) - g, x1) → (old.drop k).map (shS g) = cutL R a (s.drop a)) :
    ∀ (a : Nat) (l : List UInt8), l = s.drop a → (mendL R old t g a l).1 = cutL R a l := by
  refine cut_ind R (P := fun a l => l = s.drop a → (mendL R old t g a l).1 = cutL R a l) (fun a _ => ?_) (fun a l h ih hl => ?_)
  · rw [mendL_nil, cutL_nil]
  · cases hm : meetS old t g a with
    | some k =>
      rw [mendL_some h hm]
      unfold meetS at hm
      split at hm
      · rename_i ht
        obtain ⟨x1, hx⟩ := findS_some hm
        rw [hl]
        exact H a k x1 ht (hl ▸ h) hx
      · cases hm
    | none =>
      rw [mendL_none h hm, cutL_cons R a l h]
      simp only
      rw [ih (by rw [hl, List.drop_drop])]
theorem mendL_few (R : RuleN) (old : List (Int × Int)) (t g : Int) : ∀ (a : Nat) (l : List UInt8), (mendL R old t g a l).2 ≤ (mendL R old t g a l).1.length := by
  refine cut_ind R (fun a => ?_) (fun a l h ih => ?_)
  · rw [mendL_nil]; simp
  · cases hm : meetS old t g a with
    | some k => rw [mendL_some h hm]; simp
    | none => rw [mendL_none h hm]; simp only [List.length_cons]; omega
theorem mendL_len (R : RuleN) (old : List (Int × Int)) (t g : Int) : ∀ (a : Nat) (l : List UInt8), (mendL R old t g a l).1.length ≤ old.length + l.length ∧ (mendL R old t g a l).2 ≤ l.length := by
  refine cut_ind R (fun a => ?_) (fun a l h ih => ?_)
  · rw [mendL_nil]; simp
  · cases hm : meetS old t g a with
    | some k => rw [mendL_some h hm]; simp; omega
    | none =>
      rw [mendL_none h hm]
      simp only [List.length_cons]
      have h1 := firstL_pos R l h
      have h2 := len_pos h
      rw [List.length_drop] at ih
      omega

/-- How many old spans stay. -/
def aheadN (old : List (Int × Int)) (from' : Int) : Nat := (old.takeWhile fun x => decide (x.2 ≤ from')).length
def stayN (old : List (Int × Int)) (from' : Int) (same : Bool) : Nat :=
  if 0 < aheadN old from' ∧ aheadN old from' = old.length ∧ same = false then aheadN old from' - 1 else aheadN old from'
/-- Where they end. -/
def stayAt (old : List (Int × Int)) (k : Nat) : Int := match k with
  | 0 => 0
  | k + 1 => ((old[k]?).map (·.2)).getD 0
/-- May that be? -/
def mayB (old : List (Int × Int)) (size : Nat) (a b g : Int) : Bool := wholeB ((size : Int) - g) old && decide (0 ≤ a) && decide (a ≤ b) && decide (b ≤ (size : Int)) && decide (a ≤ b - g)
/-- The cuts anew, and how many were looked for. -/
def againL (R : RuleN) (old : List (Int × Int)) (s : List UInt8) (a b g : Int) : List (Int × Int) × Nat :=
  if mayB old s.length a b g = true then
    (old.take (stayN old a (decide (a = b) && decide (g = 0))) ++ (mendL R old b g (stayAt old (stayN old a (decide (a = b) && decide (g = 0)))).toNat (s.drop (stayAt old (stayN old a (decide (a = b) && decide (g = 0)))).toNat)).1, (mendL R old b g (stayAt old (stayN old a (decide (a = b) && decide (g = 0)))).toNat (s.drop (stayAt old (stayN old a (decide (a = b) && decide (g = 0)))).toNat)).2)
  else (cutL R 0 s, (cutL R 0 s).length)

theorem aheadN_le (old : List (Int × Int)) (a : Int) : aheadN old a ≤ old.length := by
  unfold aheadN
  exact (List.takeWhile_sublist _).length_le
theorem stayN_le (old : List (Int × Int)) (a : Int) (b : Bool) : stayN old a b ≤ aheadN old a := by
  unfold stayN
  split <;> omega
theorem take_while_get {α : Type} (p : α → Bool) : ∀ (l : List α) (k : Nat) (x : α), k < (l.takeWhile p).length → l[k]? = some x → p x = true
  | [], k, x, h, _ => by simp at h
  | y :: r, k, x, h, hx => by
    rw [List.takeWhile_cons] at h
    split at h
    · rename_i hy
      cases k with
      | zero => simp at hx; rw [← hx]; exact hy
      | succ k => exact take_while_get p r k x (by simpa using h) (by simpa using hx)
    · simp at h
theorem take_while_end {α : Type} (p : α → Bool) : ∀ (l : List α) (x : α), l[(l.takeWhile p).length]? = some x → p x = false
  | [], x, h => by simp at h
  | y :: r, x, h => by
    rw [List.takeWhile_cons] at h
    split at h
    · exact take_while_end p r x (by simpa using h)
    · rename_i hy
      simp at h
      rw [← h]
      simpa using hy
theorem take_while_len {α : Type} (p : α → Bool) (l : List α) (k : Nat) (hk : k ≤ l.length) (h1 : ∀ (i : Nat) (x : α), i < k → l[i]? = some x → p x = true) (h2 : ∀ x, l[k]? = some x → p x = false) : (l.takeWhile p).length = k := by
  rcases Nat.lt_trichotomy (l.takeWhile p).length k with h | h | h
  · have hlt : (l.takeWhile p).length < l.length := by omega
    have := take_while_end p l _ (List.getElem?_eq_getElem hlt)
    rw [h1 _ _ h (List.getElem?_eq_getElem hlt)] at this
    cases this
  · exact h
  · have hlt : k < l.length := Nat.lt_of_lt_of_le h (List.takeWhile_sublist _).length_le
    have := take_while_get p l k _ h (List.getElem?_eq_getElem hlt)
    rw [h2 _ (List.getElem?_eq_getElem hlt)] at this
    cases this

/-- What is ahead of a cut stays, whatever follows. -/
theorem cutL_same {R : RuleN} (hR : R.ok = true) {o s : List UInt8} {k f : Nat} {x1 : Int} (hx : (cutL R 0 o)[k]? = some ((f : Int), x1)) (hs : s.take f = o.take f) : cutL R 0 s = (cutL R 0 o).take k ++ cutL R f (s.drop f) := by
  have h := cutL_prefix hR (s.drop f) 0 o k f x1 (by rw [Nat.zero_add]; exact hx)
  rw [← hs, List.take_append_drop, Nat.zero_add] at h
  exact h
/-- Each span begins where the one ahead of it ends. -/
theorem cutL_link {R : RuleN} {l : List UInt8} {k : Nat} {x0 x1 y0 y1 : Int} (hx : (cutL R 0 l)[k]? = some (x0, x1)) (hy : (cutL R 0 l)[k + 1]? = some (y0, y1)) : y0 = x1 := by
  obtain ⟨f, e0, e1, e2, e3⟩ := cutL_at R 0 l k x0 x1 hx
  have hne : l.drop f ≠ [] := by
    intro h
    have := congrArg List.length h
    rw [List.length_drop, List.length_nil] at this
    omega
  rw [cutL_cons R _ _ hne, List.drop_drop] at e3
  have h1 : ((cutL R 0 l).drop k)[1]? = some (y0, y1) := by rw [List.getElem?_drop]; exact hy
  rw [e3] at h1
  have h2 : (cutL R (0 + f + firstL R (l.drop f)) (l.drop (f + firstL R (l.drop f))))[0]? = some (y0, y1) := by simpa using h1
  by_cases hd : l.drop (f + firstL R (l.drop f)) = []
  · rw [hd, cutL_nil] at h2; simp at h2
  · rw [cutL_cons R _ _ hd] at h2
    simp at h2
    omega
theorem cutL_zero {R : RuleN} {l : List UInt8} {x0 x1 : Int} (hx : (cutL R 0 l)[0]? = some (x0, x1)) : x0 = 0 := by
  by_cases hd : l = []
  · rw [hd, cutL_nil] at hx; simp at hx
  · rw [cutL_cons R _ _ hd] at hx
    simp at hx
    omega
theorem stayAt_begin {R : RuleN} {l : List UInt8} {k : Nat} {x0 x1 : Int} (hx : (cutL R 0 l)[k]? = some (x0, x1)) : stayAt (cutL R 0 l) k = x0 := by
  cases k with
  | zero => exact (cutL_zero hx).symm
  | succ k =>
    have hlt : k + 1 < (cutL R 0 l).length := by
      rcases Nat.lt_or_ge (k + 1) (cutL R 0 l).length with h | h
      · exact h
      · rw [List.getElem?_eq_none h] at hx; cases hx
    have hk := List.getElem?_eq_getElem (l := cutL R 0 l) (i := k) (by omega)
    show (((cutL R 0 l)[k]?).map (·.2)).getD 0 = x0
    rw [hk]
    show ((cutL R 0 l)[k]).2 = x0
    exact (cutL_link (x0 := ((cutL R 0 l)[k]).1) hk hx).symm

/-- An edit: what stood between a and a + |c| is now w. -/
theorem again_right {R : RuleN} (hR : R.ok = true) (A C W S : List UInt8) :
    againL R (cutL R 0 (A ++ C ++ S)) (A ++ W ++ S) (A.length : Int) ((A.length + W.length : Nat) : Int) ((W.length : Int) - (C.length : Int)) =
      (cutL R 0 (A ++ W ++ S), (againL R (cutL R 0 (A ++ C ++ S)) (A ++ W ++ S) (A.length : Int) ((A.length + W.length : Nat) : Int) ((W.length : Int) - (C.length : Int))).2) := by
  obtain ⟨o, ho⟩ : ∃ o, o = A ++ C ++ S := ⟨_, rfl⟩
  obtain ⟨s, hs⟩ : ∃ s, s = A ++ W ++ S := ⟨_, rfl⟩
  obtain ⟨g, hg⟩ : ∃ g : Int, g = (W.length : Int) - (C.length : Int) := ⟨_, rfl⟩
  obtain ⟨b, hb⟩ : ∃ b : Nat, b = A.length + W.length := ⟨_, rfl⟩
  have hol : o.length = A.length + C.length + S.length := by rw [ho]; simp; omega
  have hsl : s.length = A.length + W.length + S.length := by rw [hs]; simp; omega
  have htake : ∀ f, f ≤ A.length → s.take f = o.take f := by
    intro f hf
    rw [hs, ho, List.append_assoc, List.append_assoc, List.take_append_of_le_length hf, List.take_append_of_le_length hf]
  have hdrop : ∀ a c : Nat, b ≤ a → (c : Int) = (a : Int) - g → s.drop a = o.drop c := by
    intro a c ha hc
    have d1 : ∀ (X Y : List UInt8) (n : Nat), X.length ≤ n → (X ++ Y).drop n = Y.drop (n - X.length) := by
      intro X Y n h
      rw [List.drop_append, List.drop_eq_nil_of_le h, List.nil_append]
    have l1 : (A ++ W).length = A.length + W.length := List.length_append
    have l2 : (A ++ C).length = A.length + C.length := List.length_append
    rw [hs, ho, d1 _ _ _ (by omega), d1 _ _ _ (by omega)]
    congr 1
    omega
  rw [← ho, ← hs, ← hg, ← hb]
  have hmay : mayB (cutL R 0 o) s.length (A.length : Int) (b : Int) g = true := by
    unfold mayB
    have hw := cutL_wholeB R o
    have e : (s.length : Int) - g = (o.length : Int) := by omega
    rw [e, hw]
    simp only [Bool.true_and, Bool.and_eq_true, decide_eq_true_eq]
    omega
  obtain ⟨same, hsame⟩ : ∃ same : Bool, same = (decide ((A.length : Int) = (b : Int)) && decide (g = 0)) := ⟨_, rfl⟩
  obtain ⟨k, hk⟩ : ∃ k, k = stayN (cutL R 0 o) (A.length : Int) same := ⟨_, rfl⟩
  have hright := mendL_right R (cutL R 0 o) (b : Int) g s (by
    intro a j x1 hta hne hx
    obtain ⟨f, e0, e1, e2, e3⟩ := cutL_at R 0 o j _ x1 hx
    rw [e3, Nat.zero_add, hdrop a f (by omega) (by omega)]
    have h := cutL_from R f a (o.drop f)
    have e : (a : Int) - (f : Int) = g := by omega
    rw [e] at h
    exact h)
  have hfin : againL R (cutL R 0 o) s (A.length : Int) (b : Int) g = ((cutL R 0 o).take k ++ (mendL R (cutL R 0 o) (b : Int) g (stayAt (cutL R 0 o) k).toNat (s.drop (stayAt (cutL R 0 o) k).toNat)).1, (mendL R (cutL R 0 o) (b : Int) g (stayAt (cutL R 0 o) k).toNat (s.drop (stayAt (cutL R 0 o) k).toNat)).2) := by
    unfold againL
    rw [if_pos hmay, ← hsame, ← hk]
  rw [hfin]
  refine Prod.ext ?_ rfl
  show (cutL R 0 o).take k ++ _ = cutL R 0 s
  rw [hright _ _ rfl]
  have hkle : k ≤ aheadN (cutL R 0 o) (A.length : Int) := by rw [hk]; exact stayN_le _ _ _
  rcases Nat.lt_or_ge k (cutL R 0 o).length with hlt | hge
  · obtain ⟨x0, x1, hx⟩ : ∃ x0 x1, (cutL R 0 o)[k]? = some (x0, x1) := ⟨_, _, List.getElem?_eq_getElem hlt⟩
    rw [stayAt_begin hx]
    obtain ⟨f, e0, e1, e2, e3⟩ := cutL_at R 0 o k x0 x1 hx
    have hf : f ≤ A.length := by
      cases k with
      | zero => have := cutL_zero hx; omega
      | succ j =>
        have hj := List.getElem?_eq_getElem (l := cutL R 0 o) (i := j) (by omega)
        have h1 := take_while_get (fun x : Int × Int => decide (x.2 ≤ (A.length : Int))) (cutL R 0 o) j _ (by unfold aheadN at hkle; omega) hj
        have h2 := cutL_link (x0 := ((cutL R 0 o)[j]).1) (x1 := ((cutL R 0 o)[j]).2) hj hx
        simp at h1
        omega
    have e4 : x0.toNat = f := by omega
    rw [e4]
    exact (cutL_same hR (x1 := x1) (by rw [hx, e0, Nat.zero_add]) (htake f hf)).symm
  · have hle := aheadN_le (cutL R 0 o) (A.length : Int)
    have hka : k = aheadN (cutL R 0 o) (A.length : Int) ∧ k = (cutL R 0 o).length := ⟨by omega, by omega⟩
    have hso : k = 0 ∨ same = true := by
      rcases Nat.eq_zero_or_pos k with h | h
      · exact .inl h
      · right
        cases hsm : same with
        | true => rfl
        | false =>
          exfalso
          have := hk
          unfold stayN at this
          rw [if_pos ⟨by omega, by omega, hsm⟩] at this
          omega
    rcases hso with h0 | h0
    · have : cutL R 0 o = [] := List.eq_nil_of_length_eq_zero (by omega)
      rw [h0]
      show List.take 0 _ ++ cutL R 0 (s.drop 0) = _
      simp
    · rw [hsame] at h0
      simp only [Bool.and_eq_true, decide_eq_true_eq] at h0
      have hW : W = [] := List.eq_nil_of_length_eq_zero (by omega)
      have hC : C = [] := List.eq_nil_of_length_eq_zero (by omega)
      have hso : s = o := by rw [hs, ho, hW, hC]
      rw [hso, List.take_of_length_le hge]
      have hend : o.drop (stayAt (cutL R 0 o) k).toNat = [] := by
        rcases Nat.eq_zero_or_pos k with h | h
        · have hn : cutL R 0 o = [] := List.eq_nil_of_length_eq_zero (by omega)
          rw [cutL_empty hn]
          simp
        · obtain ⟨j, rfl⟩ : ∃ j, k = j + 1 := ⟨k - 1, by omega⟩
          have hj := List.getElem?_eq_getElem (l := cutL R 0 o) (i := j) (by omega)
          have e : stayAt (cutL R 0 o) (j + 1) = ((cutL R 0 o)[j]).2 := by
            show ((((cutL R 0 o)[j]?).map (·.2)).getD 0) = _
            rw [hj]; rfl
          rw [e]
          obtain ⟨f, e0, e1, e2, e3⟩ := cutL_at R 0 o j ((cutL R 0 o)[j]).1 ((cutL R 0 o)[j]).2 hj
          have hne : o.drop f ≠ [] := by
            intro h
            have := congrArg List.length h
            rw [List.length_drop, List.length_nil] at this
            omega
          rw [cutL_cons R _ _ hne, List.drop_drop] at e3
          have hlen := congrArg List.length e3
          rw [List.length_drop, List.length_cons] at hlen
          have hz : cutL R (0 + f + firstL R (o.drop f)) (o.drop (f + firstL R (o.drop f))) = [] := List.eq_nil_of_length_eq_zero (by omega)
          have := cutL_empty hz
          have e5 : ((cutL R 0 o)[j]).2.toNat = f + firstL R (o.drop f) := by omega
          rw [e5]
          exact this
      rw [hend, cutL_nil, List.append_nil]

theorem again_few (R : RuleN) (old : List (Int × Int)) (s : List UInt8) (a b g : Int) : (againL R old s a b g).2 ≤ (againL R old s a b g).1.length := by
  unfold againL
  split
  · have h := mendL_few R old b g (stayAt old (stayN old a (decide (a = b) && decide (g = 0)))).toNat (s.drop (stayAt old (stayN old a (decide (a = b) && decide (g = 0)))).toNat)
    simp only [List.length_append]
    omega
  · simp
theorem again_len (R : RuleN) (old : List (Int × Int)) (s : List UInt8) (a b g : Int) : (againL R old s a b g).1.length ≤ 2 * old.length + s.length ∧ (againL R old s a b g).2 ≤ s.length := by
  unfold againL
  split
  · have h := mendL_len R old b g (stayAt old (stayN old a (decide (a = b) && decide (g = 0)))).toNat (s.drop (stayAt old (stayN old a (decide (a = b) && decide (g = 0)))).toNat)
    rw [List.length_drop] at h
    simp only [List.length_append, List.length_take]
    omega
  · have := cutL_few R 0 s
    simp only
    omega
theorem again_bad (R : RuleN) {old : List (Int × Int)} {s : List UInt8} {a b g : Int} (h : mayB old s.length a b g = false) : againL R old s a b g = (cutL R 0 s, (cutL R 0 s).length) := by
  unfold againL
  rw [if_neg (by rw [h]; decide)]
end Go.Proofs.Ytkcjiogackkecaa
