/-
  The document's own Among and Drop: is a number there, all but one. No statement is proved here.
-/
import Derived.Test.YtiagofgcinlnhaaGreatDoorWalRound
import Derived.Test.YtiagofgcinlnhaaGreatDoorRegionApp
import Derived.Test.YtiagofgcinlnhaaGreatDoorDiskAlive
namespace Go.Proofs.YtiagofgcinlnhaaGreatDoor
open Go.RowKit
def manyP (n i j : Nat) : List Wr1 := (List.range j).map fun (u : Nat) => (((n : Int) - 1 - (u : Int)), roundB i)
theorem manyP_len (n i j : Nat) : (manyP n i j).length = j := by unfold manyP; simp
theorem manyP_mem {n i j : Nat} {x : Wr1} (h : x ∈ manyP n i j) : ∃ u : Nat, u < j ∧ x = ((n : Int) - 1 - (u : Int), roundB i) := by
  unfold manyP at h
  obtain ⟨u, hu, rfl⟩ := List.mem_map.1 h
  exact ⟨u, List.mem_range.1 hu, rfl⟩
def rangeI (n : Nat) : List Int := (List.range n).map fun (k : Nat) => (k : Int)
theorem rangeI_len (n : Nat) : (rangeI n).length = n := by unfold rangeI; simp
theorem rangeI_mem {n : Nat} {t : Int} : t ∈ rangeI n ↔ 0 ≤ t ∧ t < (n : Int) := by
  unfold rangeI
  rw [List.mem_map]
  constructor
  · rintro ⟨k, hk, rfl⟩
    have := List.mem_range.1 hk
    omega
  · intro h
    exact ⟨t.toNat, List.mem_range.2 (by omega), by omega⟩
theorem rangeI_strict (n : Nat) : (rangeI n).Pairwise (· < ·) := by
  unfold rangeI
  rw [List.pairwise_map]
  exact List.pairwise_lt_range.imp (fun h => by omega)
theorem many_once (n i : Nat) : rangeI n = putOnce ((manyP n i n).map Prod.fst) := by
  refine strict_ext _ _ (rangeI_strict n) (putOnce_spec _).1 (fun t => ?_)
  rw [(putOnce_spec _).2 t, rangeI_mem]
  constructor
  · intro h
    refine List.mem_map.2 ⟨((n : Int) - 1 - (((n : Int) - 1 - t).toNat : Int), roundB i), ?_, by simp only; omega⟩
    unfold manyP
    exact List.mem_map.2 ⟨((n : Int) - 1 - t).toNat, List.mem_range.2 (by omega), rfl⟩
  · intro h
    obtain ⟨x, hx, rfl⟩ := List.mem_map.1 h
    obtain ⟨u, hu, rfl⟩ := manyP_mem hx
    simp only
    omega
theorem refE_all {m : Int} : ∀ {l : List Wr1}, (∀ x ∈ l, 0 ≤ x.1 ∧ x.1 < m ∧ x.2.size = 256) → refE m l = 0
  | [], _ => rfl
  | y :: r, h => by
    obtain ⟨h1, h2, h3⟩ := h y (by simp)
    unfold refE
    rw [if_pos ⟨h1, h2⟩, if_pos h3]
    exact refE_all (fun x hx => h x (by simp [hx]))
theorem many_ok {n : Nat} (i : Nat) (h1 : 1 ≤ n) (h2 : n ≤ 60) {q : Int} (hq : 0 ≤ q ∧ q < 1099511627776) : CommitOk 200 q (manyP n i n) (rangeI n) := by
  refine ⟨many_once n i, by omega, by rw [rangeI_len]; omega, by rw [manyP_len]; omega, refE_all (fun x hx => ?_), hq⟩
  obtain ⟨u, hu, rfl⟩ := manyP_mem hx
  exact ⟨by simp only; omega, by simp only; omega, roundB_size i⟩
theorem many_last {n i : Nat} {t : Int} (h : t ∈ rangeI n) : lastB (manyP n i n) t = roundB i := by
  rw [many_once n i, (putOnce_spec _).2 t] at h
  obtain ⟨j, x, _, _, hx, _, e⟩ := lastM_all _ h
  rw [← e]
  obtain ⟨u, _, rfl⟩ := manyP_mem (List.mem_of_getElem? hx)
  rfl
def oldB : Nat → ByteArray
  | 0 => zeroB 256
  | j + 1 => roundB j
def headB : Nat → ByteArray
  | 0 => zeroB 256
  | j + 1 => doneB ((j : Int) + 1)
structure Inv9 (n j : Nat) (s : List ByteArray) : Prop where
  len : s.length = 200
  head : s[0]? = some (headB j)
  home : ∀ t : Nat, t < n → s[111 + t]? = some (oldB j)
  small : ∀ x ∈ s, x.size ≤ 256
theorem Inv9.start (n : Nat) (hn : n ≤ 60) : Inv9 n 0 (List.replicate 200 (zeroB 256)) :=
  ⟨List.length_replicate, by rw [List.getElem?_replicate, if_pos (by omega)]; rfl, fun t ht => by rw [List.getElem?_replicate, if_pos (by omega)]; rfl, fun x hx => by rw [List.eq_of_mem_replicate hx, zeroB_size]; omega⟩
theorem fold_small {N : Nat} (G : List (List Wr1)) : ∀ s : List ByteArray, (∀ g ∈ G, Fit N g) → (∀ x ∈ s, x.size ≤ 256) → ∀ x ∈ G.foldl setI s, x.size ≤ 256 := by
  induction G with
  | nil => intro s _ h; exact h
  | cons g r ih =>
    intro s hf hs
    exact ih _ (fun g' hg' => hf g' (by simp [hg'])) (setI_small g 256 s (fun x hx => by have := (hf g (by simp) x hx).2.2; omega) hs)
theorem Inv9.next {n j : Nat} {s : List ByteArray} (h : Inv9 n j s) (h1 : 1 ≤ n) (h2 : n ≤ 60) (hj : j < 100) : Inv9 n (j + 1) (doneS s (j : Int) (manyP n j n) (rangeI n)) := by
  have hok := many_ok j h1 h2 (q := (j : Int)) (by omega)
  refine ⟨by rw [CommitOk.done_len]; exact h.len, hok.done_head s h.len, fun t ht => ?_, fold_small _ _ hok.fits h.small⟩
  have := hok.done_at s h.len (t := (t : Int)) (by omega) (by omega)
  rw [if_pos (rangeI_mem.2 (by omega)), many_last (rangeI_mem.2 (by omega))] at this
  rw [show (111 + (t : Int)).toNat = 111 + t by omega] at this
  exact this
inductive Left9 (n j : Nat) (Y : List ByteArray) : Prop
  | old (h : Inv9 n j Y)
  | full (hl : Y.length = 200) (hs : ∀ x ∈ Y, x.size ≤ 256) (h0 : Y[0]? = some (fullB ((j : Int) + 1) (rangeI n))) (hc : ∀ k : Nat, k < n → Y[1 + k]? = some (roundB j))
  | new (h : Inv9 n (j + 1) Y)
theorem part_small {s Y : List ByteArray} {g : List Wr1} {N : Nat} (h : Part s (natW g) Y) (hs : ∀ x ∈ s, x.size ≤ 256) (hg : Fit N g) : ∀ x ∈ Y, x.size ≤ 256 := by
  intro x hx
  obtain ⟨i, hi⟩ := List.getElem?_of_mem hx
  rcases h.2 i with e | ⟨y, hy, _, e⟩
  · rw [hi] at e
    exact hs x (List.mem_of_getElem? e.symm)
  · rw [hi] at e
    injection e with e
    unfold natW at hy
    obtain ⟨z, hz, rfl⟩ := List.mem_map.1 hy
    have := (hg z hz).2.2
    rw [e]
    show z.2.size ≤ 256
    omega
theorem part_far {s Y : List ByteArray} {g : List Wr1} (h : Part s (natW g) Y) {i : Nat} (hi : ∀ x ∈ g, x.1.toNat ≠ i) : Y[i]? = s[i]? := by
  rcases h.2 i with e | ⟨y, hy, e', _⟩
  · exact e
  · unfold natW at hy
    obtain ⟨z, hz, rfl⟩ := List.mem_map.1 hy
    exact absurd e' (hi z hz)
theorem copies_here (l : List Wr1) (ts : List Int) : ∀ (k : Nat) (s : List ByteArray), k + ts.length < s.length → ∀ j t, ts[j]? = some t → (setI s (copiesL l k ts))[1 + (k + j)]? = some (lastB l t) := by
  induction ts with
  | nil => intro k s _ j t h; cases h
  | cons u r ih =>
    intro k s hs j t h
    rw [copiesL, setI_cons]
    cases j with
    | zero =>
      rw [List.getElem?_cons_zero] at h
      injection h with h
      subst h
      rw [setI_far _ _ (fun x hx => ?_)]
      · have e : (1 + (k : Int)).toNat = 1 + (k + 0) := by omega
        rw [show ((1 + (k : Int), lastB l u) : Wr1).1 = 1 + (k : Int) from rfl, e, List.getElem?_set_self (by simp only [List.length_cons] at hs; omega)]
      · obtain ⟨j', t', rfl, h1, _, _⟩ := copies_at l r (k + 1) x hx
        simp only
        omega
    | succ j =>
      rw [List.getElem?_cons_succ] at h
      have := ih (k + 1) (s.set (1 + (k : Int)).toNat (lastB l u)) (by simp only [List.length_set]; simp only [List.length_cons] at hs; omega) j t h
      rw [show k + 1 + j = k + (j + 1) by omega] at this
      exact this
def lastO (l : List Wr1) (o : Option ByteArray) (t : Int) : Option ByteArray := l.foldl (fun o x => if x.1 = t then some x.2 else o) o
theorem lastO_cons (x : Wr1) (r : List Wr1) (o : Option ByteArray) (t : Int) : lastO (x :: r) o t = lastO r (if x.1 = t then some x.2 else o) t := rfl
theorem lastO_no (l : List Wr1) (t : Int) : ∀ o, t ∉ l.map Prod.fst → lastO l o t = o := by
  induction l with
  | nil => intro o _; rfl
  | cons x r ih =>
    intro o h
    rw [lastO_cons, if_neg (fun e => h (by simp [e])), ih _ (fun hm => h (by simp [hm]))]
theorem lastO_yes (l : List Wr1) (t : Int) : ∀ o, t ∈ l.map Prod.fst → lastO l o t = some (lastB l t) := by
  have key : ∀ (l : List Wr1) (o : Option ByteArray), t ∈ l.map Prod.fst → lastO l o t = lastO l none t ∧ ∃ v, lastO l none t = some v := by
    intro l
    induction l with
    | nil => intro o h; cases h
    | cons x r ih =>
      intro o h
      by_cases hr : t ∈ r.map Prod.fst
      · rw [lastO_cons, lastO_cons]
        obtain ⟨h1, v, h2⟩ := ih (if x.1 = t then some x.2 else o) hr
        obtain ⟨h3, _⟩ := ih (if x.1 = t then some x.2 else none) hr
        exact ⟨h1.trans h3.symm, v, h3.trans h2⟩
      · have hx : x.1 = t := by
          rcases List.mem_cons.1 h with h | h
          · exact h.symm
          · exact absurd h hr
        rw [lastO_cons, lastO_cons, if_pos hx, if_pos hx]
        exact ⟨rfl, x.2, lastO_no r t _ hr⟩
  intro o h
  obtain ⟨h1, v, h2⟩ := key l o h
  rw [h1, h2]
  have : lastB l t = (lastO l none t).getD .empty := rfl
  rw [this, h2]
  rfl
theorem setI_get (l : List Wr1) (t : Nat) : ∀ h : List ByteArray, t < h.length → (∀ x ∈ l, 0 ≤ x.1) → (setI h l)[t]? = lastO l h[t]? (t : Int) := by
  induction l with
  | nil => intro h _ _; rfl
  | cons x r ih =>
    intro h ht h0
    rw [setI_cons, ih _ (by simpa using ht) (fun y hy => h0 y (by simp [hy])), lastO_cons]
    have hx := h0 x (by simp)
    by_cases e : x.1 = (t : Int)
    · rw [if_pos e]
      have : x.1.toNat = t := by omega
      rw [this, List.getElem?_set_self ht]
    · rw [if_neg e, List.getElem?_set_ne (by omega)]
def headQ (q : Int) : ByteArray := if q = 0 then zeroB 256 else doneB q
structure Held (N : Nat) (q : Int) (h Z : List ByteArray) : Prop where
  len : Z.length = N
  dim : 140 ≤ N ∧ N ≤ 400
  head : Z[0]? = some (headQ q)
  seq : 0 ≤ q ∧ q < 1000000
  hlen : h.length = N - 111
  home : ∀ t : Nat, t < N - 111 → Z[111 + t]? = h[t]?
  small : ∀ x ∈ Z, x.size ≤ 256
structure Fulls (N : Nat) (q : Int) (h' : List ByteArray) (T : List Int) (Z : List ByteArray) : Prop where
  len : Z.length = N
  dim : 140 ≤ N ∧ N ≤ 400
  head : Z[0]? = some (fullB q T)
  valid : (HD.mk q true T).validB = true
  seq : 1 ≤ q ∧ q < 1000000
  hlen : h'.length = N - 111
  range : ∀ t ∈ T, 0 ≤ t ∧ 111 + t < (N : Int)
  few : T.length ≤ 110
  copies : ∀ (k : Nat) (t : Int), T[k]? = some t → Z[1 + k]? = h'[t.toNat]?
  rest : ∀ t : Nat, t < N - 111 → (t : Int) ∉ T → Z[111 + t]? = h'[t]?
  size : ∀ k, k < T.length → (Z.getD (1 + k) .empty).size = 256
  small : ∀ x ∈ Z, x.size ≤ 256
theorem head_readQ {q : Int} (h0 : 0 ≤ q) (h1 : q < 1000000) (W : World) : Calls Tryz.prog 101 #[.string (headQ q)] W fun e w' => ∃ A c, e = .returned (.tuple #[.agg #[.int .i64 q, .bool false, .slice A 0 c], .int .i64 0]) ∧ Below W.heap.size W w' := by
  unfold headQ
  by_cases hq : q = 0
  · subst hq
    rw [if_pos rfl]
    exact read_zero W
  · rw [if_neg hq]
    exact read_done h0 (by omega) W
theorem Fulls.ok {N : Nat} {q : Int} {h' Z : List ByteArray} {T : List Int} (h : Fulls N q h' T Z) : RedoOk N q Z T :=
  ⟨h.len, by have := h.dim; omega, h.few, h.range, by have := h.seq; omega, h.size, fun x hx => by have := h.small x hx; omega⟩
theorem Fulls.redone {N : Nat} {q : Int} {h' Z : List ByteArray} {T : List Int} (h : Fulls N q h' T Z) : Held N q h' (redoS Z q T) := by
  have hd := h.dim
  have key : ∀ (ts : List Int) (k : Nat) (s : List ByteArray), (∀ u ∈ ts, 0 ≤ u) → (∀ i t, ts[i]? = some t → Z[1 + (k + i)]? = h'[t.toNat]? ∧ t.toNat < h'.length) → ∀ t ∈ ts, (111 + t).toNat < s.length → (setI s (redoL Z k ts))[(111 + t).toNat]? = h'[t.toNat]? := by
    intro ts
    induction ts with
    | nil => intro k s _ _ t ht; cases ht
    | cons u r ih =>
      intro k s h0 hk t ht hlt
      rw [redoL, setI_cons]
      by_cases hr : t ∈ r
      · exact ih (k + 1) _ (fun v hv => h0 v (by simp [hv])) (fun i v hv => by have := hk (i + 1) v (by simpa using hv); rw [show k + 1 + i = k + (i + 1) by omega]; exact this) t hr (by simpa using hlt)
      · have htu : t = u := by
          rcases List.mem_cons.1 ht with h | h
          · exact h
          · exact absurd h hr
        subst htu
        rw [setI_far _ _ (fun x hx => ?_), List.getElem?_set_self hlt]
        · obtain ⟨h1, h2⟩ := hk 0 t (by simp)
          rw [Nat.add_zero] at h1
          rw [List.getD_eq_getElem?_getD, h1, List.getElem?_eq_getElem h2]
          rfl
        · obtain ⟨i, v, rfl, _, _, hv, _⟩ := redoL_at Z r (k + 1) x hx
          have h1 := h0 v (by simp [hv])
          have h3 := h0 t (by simp)
          simp only
          intro e
          have : v = t := by omega
          exact hr (this ▸ hv)
  have hl : (redoS Z q T).length = N := by unfold redoS; rw [setI_length, setI_length, h.len]
  refine ⟨hl, hd, ?_, by have := h.seq; omega, h.hlen, fun t ht => ?_, fold_small [redoL Z 0 T, [(0, doneB q)]] Z h.ok.fits h.small⟩
  · unfold redoS
    rw [setI_cons]
    show (List.set _ 0 _)[0]? = _
    rw [List.getElem?_set_self (by rw [setI_length, h.len]; omega)]
    unfold headQ
    rw [if_neg (by have := h.seq; omega)]
  · unfold redoS
    rw [setI_far [(0, doneB q)] _ (fun x hx => by rw [List.mem_singleton.1 hx]; simp only; omega)]
    by_cases hm : (t : Int) ∈ T
    · have := key T 0 Z (fun u hu => (h.range u hu).1) (fun i v hv => by
        have hr := h.range v (List.mem_of_getElem? hv)
        rw [Nat.zero_add]
        exact ⟨h.copies i v hv, by rw [h.hlen]; omega⟩) (t : Int) hm (by rw [h.len]; omega)
      rw [show (111 + (t : Int)).toNat = 111 + t by omega, Int.toNat_natCast] at this
      exact this
    · rw [setI_far (redoL Z 0 T) _ (fun x hx => ?_)]
      · exact h.rest t ht hm
      · obtain ⟨i, v, rfl, _, _, hv, _⟩ := redoL_at Z T 0 x hx
        have hr := h.range v hv
        simp only
        intro e
        have : v = (t : Int) := by omega
        exact hm (this ▸ hv)
inductive LeftQ (N : Nat) (q : Int) (h : List ByteArray) (l : List Wr1) (T : List Int) (Y : List ByteArray) : Prop
  | old (k : Held N q h Y)
  | full (k : Fulls N (q + 1) (setI h l) T Y)
  | new (k : Held N (q + 1) (setI h l) Y)
section
variable {N : Nat} {q : Int} {h s : List ByteArray} {l : List Wr1} {T : List Int}
theorem home_next (hs : Held N q h s) (hok : CommitOk N q l T) {t : Nat} (ht : t < N - 111) : (setI h l)[t]? = if (t : Int) ∈ T then some (lastB l (t : Int)) else h[t]? := by
  have h0 : ∀ x ∈ l, 0 ≤ x.1 := fun x hx => (refE_ok hok.ok x hx).1
  rw [setI_get l t h (by rw [hs.hlen]; exact ht) h0]
  by_cases hm : (t : Int) ∈ T
  · rw [if_pos hm, lastO_yes l _ _ ((hok.mem _).1 hm)]
  · rw [if_neg hm, lastO_no l _ _ (fun hh => hm ((hok.mem _).2 hh))]
theorem held_next (hs : Held N q h s) (hok : CommitOk N q l T) (hq : q + 1 < 1000000) : Held N (q + 1) (setI h l) (doneS s q l T) := by
  have hd := hs.dim
  refine ⟨by rw [CommitOk.done_len]; exact hs.len, hd, ?_, by have := hs.seq; omega, by rw [setI_length]; exact hs.hlen, fun t ht => ?_, fold_small _ _ hok.fits hs.small⟩
  · rw [hok.done_head s hs.len]
    unfold headQ
    rw [if_neg (by have := hs.seq; omega)]
  · have := hok.done_at s hs.len (t := (t : Int)) (by omega) (by omega)
    rw [show (111 + (t : Int)).toNat = 111 + t by omega] at this
    rw [this, home_next hs hok ht, hs.home t ht]
theorem leftQ_cases (hs : Held N q h s) (hok : CommitOk N q l T) (hq : q + 1 < 1000000) {i : Nat} {g : List Wr1} {Y : List ByteArray}
    (hi : (groupsL q l T)[i]? = some g) (hp : Part (((groupsL q l T).take i).foldl setI s) (natW g) Y) : LeftQ N q h l T Y := by
  have hd := hs.dim
  have hf := hok.fits
  have hfew := hok.few
  have hcopy : ∀ (x : Wr1), x ∈ copiesL l 0 T → 1 ≤ x.1 ∧ x.1 ≤ 110 := fun x hx => by
    obtain ⟨k, t, rfl, a1, a2, a3⟩ := copies_at _ _ 0 x hx
    simp only
    omega
  have hhome : ∀ (x : Wr1), x ∈ homeL l T → ∃ t : Nat, (t : Int) ∈ T ∧ x.1 = 111 + (t : Int) ∧ t < N - 111 := fun x hx => by
    obtain ⟨t, ht, rfl⟩ := home_at _ _ hx
    have hr := hok.range t ht
    refine ⟨t.toNat, ?_, by simp only; omega, by omega⟩
    rw [show ((t.toNat : Nat) : Int) = t by omega]
    exact ht
  have hlen : ∀ (G : List (List Wr1)) (s : List ByteArray), (G.foldl setI s).length = s.length := by
    intro G
    induction G with
    | nil => intro s; rfl
    | cons g r ih => intro s; show (r.foldl setI (setI s g)).length = _; rw [ih, setI_length]
  have hsm := fold_small ((groupsL q l T).take i) s (fun g' hg' => hf g' (List.mem_of_mem_take hg')) hs.small
  have hYs := part_small hp hsm (hf g (List.mem_of_getElem? hi))
  have hYl : Y.length = N := by rw [hp.1, hlen, hs.len]
  have hqs := hs.seq
  have mkFull : Y[0]? = some (fullB (q + 1) T) → (∀ (k : Nat) (t : Int), T[k]? = some t → Y[1 + k]? = some (lastB l t)) → (∀ t : Nat, t < N - 111 → (t : Int) ∉ T → Y[111 + t]? = h[t]?) → Fulls N (q + 1) (setI h l) T Y := fun e1 e2 e3 => by
    refine ⟨hYl, hd, e1, hok.valid, by omega, by rw [setI_length]; exact hs.hlen, hok.range, hfew, fun k t ht => ?_, fun t ht hm => ?_, fun k hk => ?_, hYs⟩
    · have hr := hok.range t (List.mem_of_getElem? ht)
      rw [e2 k t ht, home_next hs hok (show t.toNat < N - 111 by omega), show ((t.toNat : Nat) : Int) = t by omega, if_pos (List.mem_of_getElem? ht)]
    · rw [e3 t ht hm, home_next hs hok ht, if_neg hm]
    · have ht : T[k]? = some (T[k]'hk) := List.getElem?_eq_getElem hk
      rw [List.getD_eq_getElem?_getD, e2 k _ ht]
      exact hok.size _ (List.mem_of_getElem? ht)
  have hcopyAt : ∀ (k : Nat) (t : Int), T[k]? = some t → (setI s (copiesL l 0 T))[1 + k]? = some (lastB l t) := fun k t ht => by
    have := copies_here l T 0 s (by rw [hs.len]; omega) k t ht
    rw [Nat.zero_add] at this
    exact this
  have hklt : ∀ (k : Nat) (t : Int), T[k]? = some t → k < T.length := fun k t ht => by
    rcases Nat.lt_or_ge k T.length with h | h
    · exact h
    · rw [List.getElem?_eq_none h] at ht; cases ht
  have hset0 : ∀ (X : List ByteArray) (v : ByteArray), X.length = N → (setI X [(0, v)])[0]? = some v := fun X v hX => by
    rw [setI_cons]
    show (List.set _ 0 _)[0]? = _
    rw [List.getElem?_set_self (by omega)]
  unfold groupsL at hi hp
  match i, hi with
  | 0, hi =>
    injection hi with hi
    subst hi
    have hp : Part s (natW (copiesL l 0 T)) Y := hp
    refine .old ⟨hYl, hd, ?_, hqs, hs.hlen, fun t ht => ?_, hYs⟩
    · rw [part_far hp (fun x hx => by have := hcopy x hx; omega)]; exact hs.head
    · rw [part_far hp (fun x hx => by have := hcopy x hx; omega)]; exact hs.home t ht
  | 1, hi =>
    injection hi with hi
    subst hi
    have hp : Part (setI s (copiesL l 0 T)) (natW [(0, bs (HD.mk (q + 1) true T).text)]) Y := hp
    rcases hp.2 0 with e | ⟨x, hx, _, e⟩
    · refine .old ⟨hYl, hd, ?_, hqs, hs.hlen, fun t ht => ?_, hYs⟩
      · rw [e, setI_far _ _ (fun x hx => by have := hcopy x hx; omega)]; exact hs.head
      · rw [part_far hp (fun x hx => by rw [List.mem_singleton.1 hx]; simp only; omega), setI_far _ _ (fun x hx => by have := hcopy x hx; omega)]; exact hs.home t ht
    · have hx : x = (((0 : Int)).toNat, bs (HD.mk (q + 1) true T).text) := List.mem_singleton.1 hx
      subst hx
      refine .full (mkFull e (fun k t ht => ?_) (fun t ht _ => ?_))
      · have := hklt k t ht
        rw [part_far hp (fun x hx => by rw [List.mem_singleton.1 hx]; simp only; omega)]
        exact hcopyAt k t ht
      · rw [part_far hp (fun x hx => by rw [List.mem_singleton.1 hx]; simp only; omega), setI_far _ _ (fun x hx => by have := hcopy x hx; omega)]; exact hs.home t ht
  | 2, hi =>
    injection hi with hi
    subst hi
    have hp : Part (setI (setI s (copiesL l 0 T)) [(0, bs (HD.mk (q + 1) true T).text)]) (natW (homeL l T)) Y := hp
    refine .full (mkFull ?_ (fun k t ht => ?_) (fun t ht hm => ?_))
    · rw [part_far hp (fun x hx => by obtain ⟨u, _, e, _⟩ := hhome x hx; omega)]
      exact hset0 _ _ (by rw [setI_length, hs.len])
    · have := hklt k t ht
      rw [part_far hp (fun x hx => by obtain ⟨u, _, e, _⟩ := hhome x hx; omega), setI_far _ _ (fun x hx => by rw [List.mem_singleton.1 hx]; simp only; omega)]
      exact hcopyAt k t ht
    · rw [part_far hp (fun x hx => by
        obtain ⟨u, hu, e, _⟩ := hhome x hx
        intro e2
        have : u = t := by omega
        exact hm (this ▸ hu)), setI_far _ _ (fun x hx => by rw [List.mem_singleton.1 hx]; simp only; omega), setI_far _ _ (fun x hx => by have := hcopy x hx; omega)]
      exact hs.home t ht
  | 3, hi =>
    injection hi with hi
    subst hi
    have hp : Part (setI (setI (setI s (copiesL l 0 T)) [(0, bs (HD.mk (q + 1) true T).text)]) (homeL l T)) (natW [(0, bs (HD.mk (q + 1) false []).text)]) Y := hp
    have hrest : ∀ t : Nat, t < N - 111 → Y[111 + t]? = (doneS s q l T)[111 + t]? := fun t ht => by
      rw [part_far hp (fun x hx => by rw [List.mem_singleton.1 hx]; simp only; omega)]
      unfold doneS groupsL
      simp only [List.foldl_cons, List.foldl_nil]
      rw [setI_far [(0, bs (HD.mk (q + 1) false []).text)] _ (fun x hx => by rw [List.mem_singleton.1 hx]; simp only; omega)]
    have hnx := held_next hs hok hq
    rcases hp.2 0 with e | ⟨x, hx, _, e⟩
    · refine .full (mkFull ?_ (fun k t ht => ?_) (fun t ht hm => ?_))
      · rw [e, setI_far _ _ (fun x hx => by obtain ⟨u, _, e, _⟩ := hhome x hx; omega)]
        exact hset0 _ _ (by rw [setI_length, hs.len])
      · have := hklt k t ht
        rw [part_far hp (fun x hx => by rw [List.mem_singleton.1 hx]; simp only; omega), setI_far _ _ (fun x hx => by obtain ⟨u, _, e, _⟩ := hhome x hx; omega), setI_far _ _ (fun x hx => by rw [List.mem_singleton.1 hx]; simp only; omega)]
        exact hcopyAt k t ht
      · rw [hrest t ht, hnx.home t ht, home_next hs hok ht, if_neg hm]
    · have hx : x = (((0 : Int)).toNat, bs (HD.mk (q + 1) false []).text) := List.mem_singleton.1 hx
      subst hx
      refine .new ⟨hYl, hd, ?_, by omega, by rw [setI_length]; exact hs.hlen, fun t ht => by rw [hrest t ht]; exact hnx.home t ht, hYs⟩
      rw [e]
      unfold headQ
      rw [if_neg (by omega)]
      rfl
end
theorem wp_region_store {P : Program} {ops : Array Oper} {Q : Exit → Act → World → Prop} (lo k hi : Nat) (V : Nat → Value) (J J' : World → Prop) {id : Nat} {a : Act} {w : World}
    (hm : P.follows .mixedOrders = true) (he : early .any ops = true) (hsz : ops.size = k + 1) (hsink : sinkL ops k = true) (hhi : lo + k = hi + 1) (hlo : lo + k ≤ a.tmps.size)
    (hJ : ∀ w w' : World, J w → w.grownBy w' none → J w') (h0 : J w)
    (hops : ∀ i, i < k → ∀ (x : Act) (w' : World), FrameKept a lo hi x → J w' → (∀ j ∈ waitsFor .any ops i, j < k → x.tmps[lo + j]?.getD undef = V j) → wpOp P ops Q i (fun x' w'' => x' = x.put (some (lo + i)) (V i) ∧ w'.grownBy w'' none) x w')
    (hlast : ∀ (x : Act) (w' : World), FrameKept a lo hi x → J w' → (∀ j, j < k → x.tmps[lo + j]?.getD undef = V j) → wpOp P ops Q k (fun x' w'' => x' = x.put none undef ∧ J' w'') x w')
    (hK : ∀ (x : Act) (w' : World), FrameKept a lo hi x → (∀ j, j < k → x.tmps[lo + j]?.getD undef = V j) → J' w' → Q .normal x w') : (Code.region id ops true).wp P Q a w := by
  have hcl : ∀ (L : Nat → Bool) (i : Nat), (∀ i, L i = true → ∀ j ∈ waitsFor .any ops i, L j = true) → (∀ j ∈ waitsFor .any ops i, L j = true) → ∀ n, (fun j => if i = j then true else L j) n = true → ∀ j ∈ waitsFor .any ops n, (fun j => if i = j then true else L j) j = true := by
    intro L i h1 h2 n hn j hj
    by_cases hij : i = j
    · simp [hij]
    · simp only [if_neg hij]
      by_cases hin : i = n
      · subst hin; exact h2 j hj
      · simp only [if_neg hin] at hn
        exact h1 n hn j hj
  refine wp_region_kept (fun L x w => FrameKept a lo hi x ∧ Left k lo (fun i v => v = V i) L x ∧ (∀ i, L i = true → ∀ j ∈ waitsFor .any ops i, L j = true) ∧ (L k = true → J' w) ∧ (L k = false → J w)) hm he ?_ ?_ ?_
  · exact ⟨FrameKept.refl _ _ _, (fun _ _ h => by cases h), (fun _ h => by cases h), (fun h => by cases h), fun _ => hJ _ _ h0 (by_drew (by_refl _ _))⟩
  · intro L x w' i ⟨hF, hL, hc, h1, h2⟩ hi hLi hw
    by_cases hik : i = k
    · subst hik
      have hall : ∀ j, j < i → L j = true := fun j hj => by
        have := sink_done (L := fun j => if i = j then true else L j) hsink (hcl L i hc hw) (by simp) j hj
        simpa [show i ≠ j by omega] using this
      refine wpOp_mono (fun x' w'' h => ?_) (hlast x w' hF (h2 hLi) (fun j hj => hL j hj (hall j hj)))
      obtain ⟨rfl, hj'⟩ := h
      refine ⟨hF, fun j hj hLj => ?_, hcl L i hc hw, fun _ => hj', fun h => by simp at h⟩
      simp only [if_neg (show ¬ i = j by omega)] at hLj
      exact hL j hj hLj
    · have hi : i < k := by omega
      have hk : L k = false := by
        cases hb : L k with
        | false => rfl
        | true =>
          have := sink_done hsink hc hb i hi
          rw [hLi] at this
          cases this
      refine wpOp_mono (fun x' w'' h => ?_) (hops i hi x w' hF (h2 hk) (fun j hj hjk => hL j hjk (hw j hj)))
      obtain ⟨rfl, hg⟩ := h
      refine ⟨hF.put _ _ (by omega) (by omega), hL.next i (V i) (by rw [hF.2.1]; omega) (fun _ _ _ _ hu => hu) rfl, hcl L i hc hw, fun h => ?_, fun _ => hJ _ _ (h2 hk) hg⟩
      simp only [if_neg hik, hk] at h
      cases h
  · intro L x w' ⟨hF, hL, _, h1, _⟩ hall
    exact hK x w' hF (fun j hj => hL j hj (hall j (by omega))) (h1 (hall k (by omega)))
set_option maxRecDepth 100000 in
set_option maxHeartbeats 2000000 in
theorem ramong_any (x : Int) (A : Option Addr) (c n : Nat) (l : List Int) (w : World) (hn : l.length = n) (hx : Ints w w.heap.size A l) (hb : n ≤ 1000000) :
    Calls Tryz.prog 11 #[.slice A n c, .int .i64 x] w fun e w' => e = .returned (.bool (decide (x ∈ l))) ∧ w' = w := by
  have HX := Lib.hid hx
  have HM := Lib.hid hn
  clear hx hn
  go_enter Tryz.func11, Tryz.ntmps11
  go_wp2_with fail
  go_loopw [5] (fun i wr => ∃ (j : Nat), j ≤ n ∧ i = .int .i64 j ∧ x ∉ l.take j ∧ wr = w) (fun i _ => n - (intOf i).toNat)
  case atStart => exact ⟨0, Nat.zero_le _, rfl, by simp, rfl⟩
  case round =>
    obtain ⟨j, hj, rfl, hno, rfl⟩ := hrel
    have HNO := Lib.hid hno
    clear hno
    by_cases hlt : j < n
    · have hjl : j < l.length := by rw [HM.out]; exact hlt
      obtain ⟨b, off, hA, hbB, hc⟩ := HX.out (by omega)
      obtain ⟨y, hy⟩ : ∃ y, y = l[j] := ⟨_, rfl⟩
      have hyj : l[j]? = some y := by rw [hy]; exact List.getElem?_eq_getElem hjl
      have E2 : Hid (l.take (j + 1) = l.take j ++ [y]) := Lib.hid (by rw [List.take_add_one, hyj]; rfl)
      have HYM := Lib.hid (List.mem_of_getElem? hyj)
      have d0 := hc j y hyj
      subst hA
      have hjI : (j : Int) < (n : Int) := by omega
      clear hy hyj hc hjl
      by_cases hxy : y = x
      · subst hxy
        go_wp2_with fail
        go_ret
        exact ⟨by rw [decide_eq_true HYM.out]; rfl, rfl⟩
      · have HNE := Lib.hid hxy
        go_wp2_with fail
        go_roundw
        case rel =>
          refine ⟨j + 1, by omega, by go_num, fun h => ?_, by first | rfl | trivial⟩
          rw [E2.out] at h
          rcases List.mem_append.1 h with h | h
          · exact HNO.out h
          · exact HNE.out (List.mem_singleton.1 h).symm
        case measure => simp [intOf]; omega
    · obtain rfl : j = n := by omega
      have htk : l.take j = l := List.take_of_length_le (by rw [HM.out]; exact Nat.le_refl _)
      rw [htk] at HNO
      clear htk
      go_wp2_with fail
      go_ret
      exact ⟨by rw [decide_eq_false HNO.out]; rfl, rfl⟩
set_option maxRecDepth 100000 in
set_option maxHeartbeats 2000000 in
theorem rdrop_any (x : Int) (A : Option Addr) (c n : Nat) (l : List Int) (w : World) (hn : l.length = n) (hx : Ints w w.heap.size A l) (hb : n ≤ 1000000) :
    Calls Tryz.prog 15 #[.slice A n c, .int .i64 x] w fun e w' => ∃ A' c', e = .returned (.slice A' (dropL x l).length c') ∧ w'.ownsRow w.heap.size 3 1 (.slice A' (dropL x l).length c') (dropL x l).length ((dropL x l).map (Value.int .i64)) ∧ Below w.heap.size w w' := by
  obtain ⟨i0, hi, hz0, hz1, hz2⟩ := info_parts hints_info
  have HX := Lib.hid hx
  have HM := Lib.hid hn
  clear hx hn
  go_enter Tryz.func15, Tryz.ntmps15
  go_wp2_with fail
  go_loopw [5, 6] (fun v i wr => ∃ (j : Nat) (xs : List Int), j ≤ n ∧ i = .int .i64 j ∧ xs = dropL x (l.take j) ∧ xs.length ≤ j ∧ wr.ownsRow w.heap.size 3 1 v xs.length (xs.map (Value.int .i64)) ∧ Below w.heap.size w wr) (fun _ i _ => n - (intOf i).toNat)
  case atStart => exact ⟨0, [], Nat.zero_le _, rfl, rfl, Nat.le_refl _, World.ownsRow_nil _ _ _ _, Below.refl _ _⟩
  case round =>
    obtain ⟨j, xs, hj, rfl, hxs, hxl, hrow, hbr⟩ := hrel
    have HXS := Lib.hid hxs
    have HRW := Lib.hid hrow
    have HBR := Lib.hid hbr
    clear hxs hrow hbr
    by_cases hlt : j < n
    · have hjl : j < l.length := by rw [HM.out]; exact hlt
      obtain ⟨b, off, hA, hbB, hc⟩ := HX.out (by omega)
      obtain ⟨y, hy⟩ : ∃ y, y = l[j] := ⟨_, rfl⟩
      have hyj : l[j]? = some y := by rw [hy]; exact List.getElem?_eq_getElem hjl
      have E2 : Hid (dropL x (l.take (j + 1)) = if y ≠ x then xs ++ [y] else xs) := Lib.hid (by
        rw [List.take_add_one, hyj]
        unfold dropL
        rw [List.filter_append, HXS.out]
        by_cases e : y = x
        · rw [if_neg (by simp [e])]
          simp [e, dropL]
        · rw [if_pos e]
          simp [e, dropL])
      have d0 : wr.cell? ⟨b, off + j, none⟩ = some (.int .i64 y) := (HBR.out.cell (p := ⟨b, off + j, none⟩) hbB).trans (hc j y hyj)
      subst hA
      have hjI : (j : Int) < (n : Int) := by omega
      clear hy hyj hc hjl
      by_cases hxy : y = x
      · rw [if_neg (by simp [hxy])] at E2
        subst hxy
        go_wp2_with fail
        go_roundw
        case rel => exact ⟨j + 1, xs, by omega, by go_num, E2.out.symm, by omega, HRW.out, HBR.out⟩
        case measure => simp [intOf]; omega
      · rw [if_pos hxy] at E2
        go_wp2_with (at_builtin; refine wpList_append_lies _ rfl (.tmp 19) (.tmp 24) 39 rfl w.heap.size 3 i0 (.int .i64 0) 1 8 Tryz.underlying39 hi hz0 hz1 hz2 rfl (by omega) _ xs.length _ rfl (HRW.out.alloc _) ⟨wr.heap.size, 0, none⟩ 1 1 [.int .i64 y] rfl rfl ?c1 ?c2 (by omega) (by unfold maxLen; omega) (by omega) (by have := HBR.out.size; simp; omega) _ rfl ?_)
        case c1 =>
          intro a u ha
          match a, ha with
          | 0, ha => simp at ha; subst ha; simp [Addr.add]
        case c2 => intro u hu; simp at hu; subst hu; rfl
        intro g2 cap w3 hown hg hor hlt1
        have HB3 : Hid (Below w.heap.size w w3) := Lib.hid ((HBR.out.alloc HBR.out.size _).grown hg (by have := HBR.out.size; simp; omega) (fun q e => (HRW.out.lt q e).1))
        have HR3 : Hid (w3.ownsRow w.heap.size 3 1 (.slice (some ⟨g2, 0, none⟩) (xs.length + 1) cap) (xs.length + 1) ((xs ++ [y]).map (Value.int .i64))) := Lib.hid (by rw [List.map_append]; exact hown)
        clear hown hg hor hlt1
        go_wp2_with fail
        go_roundw
        case rel =>
          refine ⟨j + 1, xs ++ [y], by omega, by go_num, E2.out.symm, by simp; omega, ?_, HB3.out⟩
          rw [List.length_append]
          exact HR3.out
        case measure => simp [intOf]; omega
    · obtain rfl : j = n := by omega
      have htk : l.take j = l := List.take_of_length_le (by rw [HM.out]; exact Nat.le_refl _)
      rw [htk] at HXS
      obtain rfl : xs = dropL x l := HXS.out
      obtain ⟨p, cap, rfl⟩ : ∃ p cap, u5 = .slice p (dropL x l).length cap := by
        obtain ⟨p, cap, e, _⟩ := row_slice' HRW.out
        exact ⟨p, cap, e⟩
      clear htk
      go_wp2_with fail
      go_ret
      exact ⟨_, _, rfl, HRW.out, HBR.out⟩
end Go.Proofs.YtiagofgcinlnhaaGreatDoor
