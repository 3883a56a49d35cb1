/-
  What Put, Drop and Refs leave of a chain, as plain data. No statement is proved here.
-/
import Derived.Test.YtolbnkpakjdnnaaGreatDoorLinkPut
namespace Go.Proofs.YtolbnkpakjdnnaaGreatDoor
open Go.RowKit

/-- What was put from number j down: the sectors, and all that is as it was. -/
structure PutOn (N : Nat) (gen tag : Int) (b : ByteArray) (j : Nat) (K : KD) (nx : Int) (K' : KD) (t : Int) (qs : List Int) : Prop where
  len : qs.length = j
  head : t = qs.getD 0 nx
  laid : ∀ i, i < j → K'.F (qs.getD i 0) = bs (lkB gen tag b i (qs.getD (i + 1) nx)).text
  fresh : ∀ p ∈ qs, p ∉ K.H ∧ 0 ≤ p ∧ p < ((N - 111 : Nat) : Int)
  once : qs.Nodup
  mem : ∀ z, z ∈ K'.H ↔ z ∈ K.H ∨ z ∈ qs
  rest : ∀ z, z ∉ qs → K'.F z = K.F z
  cnt : K'.H.length = K.H.length + j
  same : K' = backK K K'.F K'.H
theorem getD_snoc_lt {l : List Int} {x d : Int} {i : Nat} (h : i < l.length) : (l ++ [x]).getD i d = l.getD i d := by
  rw [List.getD_eq_getElem?_getD, List.getD_eq_getElem?_getD, List.getElem?_append_left h]
theorem getD_snoc_eq {l : List Int} {x d : Int} {i : Nat} (h : i = l.length) : (l ++ [x]).getD i d = x := by
  rw [List.getD_eq_getElem?_getD, List.getElem?_append_right (by omega), h, Nat.sub_self]
  rfl
theorem getD_ge {l : List Int} {d : Int} {i : Nat} (h : l.length ≤ i) : l.getD i d = d := by
  rw [List.getD_eq_getElem?_getD, List.getElem?_eq_none h]
  rfl
theorem getD_def {l : List Int} {d d' : Int} {i : Nat} (h : i < l.length) : l.getD i d = l.getD i d' := by
  rw [List.getD_eq_getElem?_getD, List.getD_eq_getElem?_getD, List.getElem?_eq_getElem h]
  rfl
section
variable {N : Nat} {gen tag : Int} {b : ByteArray} {h : List ByteArray} {c : Nat}
theorem put_on : ∀ (j : Nat) (K : KD) (nx : Int) (K' : KD) (t : Int), HOk (N - 111) K.H → putC N gen tag b j K nx = some (K', t) → ∃ qs, PutOn N gen tag b j K nx K' t qs
  | 0, K, nx, K', t, _, hp => by
    unfold putC at hp
    injection hp with hp
    injection hp with h1 h2
    subst h1 h2
    exact ⟨[], ⟨rfl, rfl, (fun i hi => by omega), (fun p hp => by cases hp), List.nodup_nil, (fun z => by simp), (fun z _ => rfl), rfl, rfl⟩⟩
  | j + 1, K, nx, K', t, ho, hp => by
    unfold putC at hp
    have hL := leastN_spec ho
    obtain ⟨k, hk⟩ : ∃ k, k = leastN K.H := ⟨_, rfl⟩
    rw [← hk] at hp hL
    split at hp
    · rename_i hlt
      have hkH : (k : Int) ∉ K.H := hL.not
      have ho1 : HOk (N - 111) (newK K k (bs (lkB gen tag b j nx).text)).H := ho.put (by omega) (by omega)
      obtain ⟨qs, q⟩ := put_on j (newK K k (bs (lkB gen tag b j nx).text)) k K' t ho1 hp
      have hm1 : ∀ z, z ∈ (newK K k (bs (lkB gen tag b j nx).text)).H ↔ z = (k : Int) ∨ z ∈ K.H := fun z => putL_mem _ _ _
      have hkq : (k : Int) ∉ qs := fun hm => (q.fresh _ hm).1 ((hm1 _).2 (.inl rfl))
      refine ⟨qs ++ [(k : Int)], ?_, ?_, ?_, ?_, ?_, ?_, ?_, ?_, ?_⟩
      · rw [List.length_append, q.len]
        rfl
      · rw [q.head]
        rcases Nat.eq_zero_or_pos qs.length with h0 | h0
        · rw [getD_ge (by omega), getD_snoc_eq (by omega)]
        · rw [getD_snoc_lt h0, getD_def h0]
      · intro i hi
        rcases Nat.lt_or_ge i j with h' | h'
        · have hil : i < qs.length := by rw [q.len]; exact h'
          rw [getD_snoc_lt hil, q.laid i h']
          congr 3
          rcases Nat.lt_or_ge (i + 1) qs.length with h2 | h2
          · rw [getD_snoc_lt h2, getD_def h2]
          · rw [getD_ge h2, getD_snoc_eq (by omega)]
        · obtain rfl : i = j := by omega
          rw [getD_snoc_eq q.len.symm, getD_ge (by rw [List.length_append, q.len]; simp), q.rest _ hkq]
          exact updF_same _ _ _
      · intro p hp
        rcases List.mem_append.1 hp with hp | hp
        · obtain ⟨a1, a2⟩ := q.fresh p hp
          exact ⟨fun hm => a1 ((hm1 _).2 (.inr hm)), a2⟩
        · rw [List.mem_singleton.1 hp]
          exact ⟨hkH, by omega, by omega⟩
      · rw [List.nodup_append]
        refine ⟨q.once, by simp, fun a ha b hb => ?_⟩
        rw [List.mem_singleton.1 hb]
        exact fun e => hkq (e ▸ ha)
      · intro z
        rw [q.mem, hm1]
        simp only [List.mem_append, List.mem_cons, List.not_mem_nil, or_false]
        constructor
        · rintro ((h | h) | h)
          · exact .inr (.inr h)
          · exact .inl h
          · exact .inr (.inl h)
        · rintro (h | h | h)
          · exact .inl (.inr h)
          · exact .inr h
          · exact .inl (.inl h)
      · intro z hz
        simp only [List.mem_append, List.mem_cons, List.not_mem_nil, or_false, not_or] at hz
        rw [q.rest z hz.1]
        exact updF_other _ _ hz.2
      · rw [q.cnt]
        show (putL (k : Int) K.H).length + j = _
        rw [putL_length _ _ hkH]
        omega
      · exact q.same
    · cases hp
/-- No room: none is put. -/
theorem put_none : ∀ (j : Nat) (K : KD) (nx : Int), HOk (N - 111) K.H → (putC N gen tag b j K nx = none ↔ N - 111 < K.H.length + j)
  | 0, K, nx, ho => by
    have := ho.few
    unfold putC
    constructor
    · intro h; cases h
    · intro h; omega
  | j + 1, K, nx, ho => by
    have hf := ho.few
    have hL := leastN_spec ho
    unfold putC
    obtain ⟨k, hk⟩ : ∃ k, k = leastN K.H := ⟨_, rfl⟩
    rw [← hk] at hL ⊢
    rcases Nat.lt_or_ge K.H.length (N - 111) with h' | h'
    · have hlt := least_lt ho hL h'
      rw [if_pos hlt, put_none j _ _ (ho.put (by omega) (by omega))]
      have : (newK K k (bs (lkB gen tag b j nx).text)).H.length = K.H.length + 1 := putL_length _ _ hL.not
      rw [this]
      omega
    · have e := hL.one (least_full ho (by omega))
      rw [if_neg (by omega)]
      constructor
      · intro _; omega
      · intro _; rfl
/-- A whole chain that was put. -/
theorem put_chain {K K' : KD} {t : Int} (hN : N ≤ 400) (ho : HOk (N - 111) K.H) (h0 : (0 : Int) ∈ K.H) (h1 : (1 : Int) ∈ K.H) (hf : fitsC gen tag = true) (hb : b.size ≤ 9440) (hp : putC N gen tag b (needN b.size) K 0 = some (K', t)) :
    ∃ ps, ChainOn K'.F gen tag 1 b ps ∧ t = ps.getD 0 0 ∧ PutOn N gen tag b (needN b.size) K 0 K' t ps := by
  obtain ⟨ps, q⟩ := put_on _ _ _ _ _ ho hp
  refine ⟨ps, ⟨of_decide_eq_true hf, by omega, hb, q.len, fun p hp => ?_, fun i hi => ?_⟩, q.head, q⟩
  · obtain ⟨a1, a2, a3⟩ := q.fresh p hp
    have : p ≠ 0 := fun e => a1 (e ▸ h0)
    have : p ≠ 1 := fun e => a1 (e ▸ h1)
    omega
  · rw [q.laid i (by rw [← q.len]; exact hi)]
    rfl
end
end Go.Proofs.YtolbnkpakjdnnaaGreatDoor
