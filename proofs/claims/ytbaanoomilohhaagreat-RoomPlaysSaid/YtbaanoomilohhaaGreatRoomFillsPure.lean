/-
  Sectors taken one by one, given back, taken again: plain. No statement is proved here.
-/
import Derived.Test.YtbaanoomilohhaaGreatRoomAlive
namespace Go.Proofs.YtbaanoomilohhaaGreat

theorem putEach_spec (l : List Int) : (putEach l).Pairwise (· < ·) ∧ ∀ z, z ∈ putEach l ↔ z ∈ l := by
  obtain ⟨h1, h2⟩ := putAll_spec l [] List.Pairwise.nil
  exact ⟨h1, fun z => by rw [show putEach l = l.foldl (fun a x => putL x a) [] from rfl, h2 z]; simp⟩
theorem putEach_rise {l : List Int} (h : l.Pairwise (· < ·)) : putEach l = l := strict_ext _ _ (putEach_spec l).1 h (putEach_spec l).2
theorem putL_length (x : Int) : ∀ l : List Int, x ∉ l → (putL x l).length = l.length + 1
  | [], _ => rfl
  | y :: r, h => by
    have h1 : x ≠ y := fun e => h (by simp [e])
    have h2 : x ∉ r := fun e => h (by simp [e])
    unfold putL
    split
    · rw [List.length_cons, putL_length x r h2, List.length_cons]
    · rw [if_neg (fun e => h1 e.symm)]
      simp
theorem putL_le (x : Int) : ∀ l : List Int, (putL x l).length ≤ l.length + 1
  | [] => by simp [putL]
  | y :: r => by
    unfold putL
    split
    · rw [List.length_cons, List.length_cons]; have := putL_le x r; omega
    · split <;> simp
theorem putEach_le (l : List Int) : (putEach l).length ≤ l.length := by
  have : ∀ (l acc : List Int), (l.foldl (fun a x => putL x a) acc).length ≤ acc.length + l.length := by
    intro l
    induction l with
    | nil => intro acc; simp
    | cons x r ih => intro acc; have h1 := ih (putL x acc); have h2 := putL_le x acc; rw [List.foldl_cons, List.length_cons]; omega
  have := this l []
  unfold putEach
  simpa using this
/-- All sectors are in use. -/
theorem all_used {n : Nat} {H : List Int} (ho : HOk n H) (hl : H.length = n) : ∀ t : Nat, t < n → (t : Int) ∈ H := by
  have := congrArg List.length (all_list ho)
  rw [List.length_map, hl] at this
  have h2 : ((List.range n).filter (inP H)).length = (List.range n).length := by rw [this, List.length_range]
  intro t ht
  have h3 := List.length_filter_eq_length_iff.1 h2 t (List.mem_range.2 ht)
  exact (inP_iff _ _).1 h3
theorem least_full {n : Nat} {H : List Int} (ho : HOk n H) (hl : H.length = n) : Least H n :=
  ⟨all_used ho hl, fun hm => by have := ho.range _ hm; omega⟩
theorem least_lt {n : Nat} {H : List Int} {k : Nat} (ho : HOk n H) (hk : Least H k) (hl : H.length < n) : k < n := by
  have h1 := hk.le ho
  rcases Nat.lt_or_ge k n with h | h
  · exact h
  · obtain rfl : k = n := by omega
    have e : (List.range k).filter (inP H) = List.range k := by
      rw [List.filter_eq_self]
      intro t ht
      exact (inP_iff _ _).2 (hk.all t (List.mem_range.1 ht))
    have := congrArg List.length (all_list ho)
    rw [List.length_map, e, List.length_range] at this
    omega

/-- While they are taken: those of old are in use, and all up to the last one. -/
structure Taking (n : Nat) (old : List Int) (i : Nat) (last : Int) (H : List Int) : Prop where
  ok : HOk n H
  len : H.length = old.length + i
  old : ∀ x ∈ old, x ∈ H
  up : ∀ t : Nat, (t : Int) ≤ last → (t : Int) ∈ H
  low : -1 ≤ last
theorem Taking.start {n : Nat} {old : List Int} (ho : HOk n old) : Taking n old 0 (-1) old := ⟨ho, rfl, fun _ h => h, fun t ht => by omega, by omega⟩
theorem Taking.next {n : Nat} {old : List Int} {i : Nat} {last : Int} {H : List Int} {k : Nat} (h : Taking n old i last H) (hk : Least H k) (hi : old.length + i < n) :
    k < n ∧ last < (k : Int) ∧ (k : Int) ∉ old ∧ Taking n old (i + 1) (k : Int) (putL (k : Int) H) := by
  have hlt := least_lt h.ok hk (by rw [h.len]; exact hi)
  refine ⟨hlt, ?_, fun hm => hk.not (h.old _ hm), h.ok.put (by omega) (by omega), by rw [putL_length _ _ hk.not, h.len]; omega, fun x hx => (putL_mem _ _ _).2 (.inr (h.old x hx)), fun t ht => ?_, by omega⟩
  · rcases Int.lt_or_le last (k : Int) with h' | h'
    · exact h'
    · exact absurd (h.up k h') hk.not
  · rcases Nat.lt_or_ge t k with h' | h'
    · exact (putL_mem _ _ _).2 (.inr (hk.all t h'))
    · exact (putL_mem _ _ _).2 (.inl (by omega))

theorem rise_nodup {l : List Int} (h : l.Pairwise (· < ·)) : l.Nodup := h.imp (fun hab e => by omega)
theorem dropL_length {x : Int} : ∀ {H : List Int}, H.Pairwise (· < ·) → x ∈ H → (dropL x H).length + 1 = H.length
  | [], _, hm => by cases hm
  | y :: r, h, hm => by
    rw [List.pairwise_cons] at h
    unfold dropL
    rw [List.filter_cons]
    by_cases e : y = x
    · subst e
      have hn : y ∉ r := fun hy => by have := h.1 y hy; omega
      have := dropL_not hn
      unfold dropL at this
      rw [if_neg (by simp), this, List.length_cons]
    · rw [if_pos (by simpa using e)]
      have hm' : x ∈ r := by
        rcases List.mem_cons.1 hm with h' | h'
        · exact absurd h'.symm e
        · exact h'
      have := dropL_length h.2 hm'
      unfold dropL at this
      rw [List.length_cons, List.length_cons]
      omega
/-- Given back, all of them in use: all but those are left. -/
theorem giveL_all {n : Nat} (l : List Int) : ∀ (H : List Int) (c : Nat), HOk n H → l.Pairwise (· < ·) → (∀ x ∈ l, x ∈ H) →
    (l.foldl giveS (H, c)).2 = c + l.length ∧ (l.foldl giveS (H, c)).1.length + l.length = H.length ∧ ∀ x, x ∈ (l.foldl giveS (H, c)).1 ↔ x ∈ H ∧ x ∉ l := by
  induction l with
  | nil => intro H c _ _ _; exact ⟨by simp, by simp, fun x => by simp⟩
  | cons y r ih =>
    intro H c ho hr hin
    rw [List.pairwise_cons] at hr
    have hy : y ∈ H := hin y (by simp)
    have hg : giveS (H, c) y = (dropL y H, c + 1) := by unfold giveS; rw [if_pos hy]
    have hd := dropL_length ho.rise hy
    obtain ⟨h1, h2, h3⟩ := ih (dropL y H) (c + 1) (ho.drop y) hr.2 (fun x hx => (dropL_mem _ _ _).2 ⟨hin x (by simp [hx]), fun e => by have := hr.1 x hx; omega⟩)
    rw [List.foldl_cons, hg]
    refine ⟨by rw [h1, List.length_cons]; omega, by rw [List.length_cons]; omega, fun x => ?_⟩
    rw [h3 x, dropL_mem, List.mem_cons]
    constructor
    · rintro ⟨⟨a, b⟩, c⟩
      exact ⟨a, fun h => h.elim b c⟩
    · rintro ⟨a, b⟩
      exact ⟨⟨a, fun h => b (.inl h)⟩, fun h => b (.inr h)⟩
/-- While those that were given back are taken again. -/
structure Back (n : Nat) (l : List Int) (i : Nat) (H : List Int) : Prop where
  ok : HOk n H
  mem : ∀ x, x ∈ H ↔ (0 ≤ x ∧ x < (n : Int)) ∧ x ∉ l.drop i
theorem Back.next {n : Nat} {l : List Int} {i : Nat} {H : List Int} {y : Int} (h : Back n l i H) (hl : l.Pairwise (· < ·)) (hr : ∀ x ∈ l, 0 ≤ x ∧ x < (n : Int)) (hy : l[i]? = some y) :
    ∃ k : Nat, y = (k : Int) ∧ k < n ∧ Least H k ∧ Back n l (i + 1) (putL (k : Int) H) := by
  obtain ⟨y0, y1⟩ := hr y (List.mem_of_getElem? hy)
  obtain ⟨k, rfl⟩ := Int.eq_ofNat_of_zero_le y0
  have hil : i < l.length := by
    rcases Nat.lt_or_ge i l.length with h' | h'
    · exact h'
    · rw [List.getElem?_eq_none h'] at hy; cases hy
  have hd : l.drop i = (k : Int) :: l.drop (i + 1) := by
    rw [List.drop_eq_getElem_cons hil]
    rw [List.getElem?_eq_getElem hil] at hy
    rw [Option.some.inj hy]
  have hp : ((k : Int) :: l.drop (i + 1)).Pairwise (· < ·) := by rw [← hd]; exact hl.sublist (List.drop_sublist _ _)
  rw [List.pairwise_cons] at hp
  have hno : (k : Int) ∉ l.drop (i + 1) := fun hm => by have := hp.1 _ hm; omega
  refine ⟨k, rfl, by omega, ⟨fun t ht => ?_, fun hm => ?_⟩, h.ok.put (by omega) y1, fun x => ?_⟩
  · refine (h.mem _).2 ⟨⟨by omega, by omega⟩, fun hm => ?_⟩
    rw [hd] at hm
    rcases List.mem_cons.1 hm with e | hm
    · omega
    · have := hp.1 _ hm; omega
  · exact ((h.mem _).1 hm).2 (by rw [hd]; simp)
  · rw [putL_mem, h.mem, hd, List.mem_cons]
    constructor
    · rintro (rfl | ⟨a, b⟩)
      · exact ⟨⟨by omega, y1⟩, hno⟩
      · exact ⟨a, fun h => b (.inr h)⟩
    · rintro ⟨a, b⟩
      by_cases e : x = (k : Int)
      · exact .inl e
      · exact .inr ⟨a, fun h => h.elim e b⟩

/-- A number brought into 0 to n less 1. -/
def modN (n x : Int) : Int := (x.tmod n + n).tmod n
theorem modN_range {n x : Int} (h : 1 ≤ n) : 0 ≤ modN n x ∧ modN n x < n := by
  unfold modN
  have h1 : -n < x.tmod n := by
    have := Int.lt_tmod_of_pos x (show (0 : Int) < n by omega)
    omega
  exact ⟨Int.tmod_nonneg _ (by omega), Int.tmod_lt_of_pos _ (by omega)⟩
def modAll (n : Int) (l : List Int) : List Int := putEach (l.map (modN n))
theorem modAll_snoc (n : Int) {l : List Int} {j : Nat} {x : Int} (h : l[j]? = some x) : modAll n (l.take (j + 1)) = putL (modN n x) (modAll n (l.take j)) := by
  unfold modAll
  rw [List.take_add_one, h]
  simp only [Option.toList_some, List.map_append, List.map_cons, List.map_nil]
  unfold putEach
  rw [List.foldl_append]
  rfl
theorem modAll_rise (n : Int) (l : List Int) : (modAll n l).Pairwise (· < ·) := (putEach_spec _).1
theorem modAll_range {n : Int} (h : 1 ≤ n) (l : List Int) : ∀ x ∈ modAll n l, 0 ≤ x ∧ x < n := fun x hx => by
  obtain ⟨y, _, rfl⟩ := List.mem_map.1 (((putEach_spec _).2 x).1 hx)
  exact modN_range h
theorem modAll_le (n : Int) (l : List Int) : (modAll n l).length ≤ l.length := by
  have := putEach_le (l.map (modN n))
  rwa [List.length_map] at this
theorem modAll_ok {n : Nat} (h : 1 ≤ n) (l : List Int) : HOk n (modAll (n : Int) l) := ⟨modAll_rise _ _, modAll_range (by omega) l⟩
theorem give_out {n : Nat} {H : List Int} (ho : HOk n H) : giveL H [-1, (n : Int)] = (H, 0) := by
  have h1 : (-1 : Int) ∉ H := fun hm => by have := ho.range _ hm; omega
  have h2 : (n : Int) ∉ H := fun hm => by have := ho.range _ hm; omega
  unfold giveL
  simp only [List.foldl_cons, List.foldl_nil]
  unfold giveS
  rw [if_neg h1]
  simp only
  rw [if_neg h2]
end Go.Proofs.YtbaanoomilohhaaGreat
