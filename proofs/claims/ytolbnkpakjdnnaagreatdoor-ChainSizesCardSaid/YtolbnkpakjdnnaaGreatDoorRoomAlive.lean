/-
  The law's first call. No statement is proved here.
-/
import Derived.Test.YtolbnkpakjdnnaaGreatDoorWalAllPure
import Derived.Test.YtolbnkpakjdnnaaGreatDoorRegionApp
import Derived.Test.YtolbnkpakjdnnaaGreatDoorRoomMake
namespace Go.Proofs.YtolbnkpakjdnnaaGreatDoor
open Go.RowKit

def lastO (l : List Wr1) (o : Option ByteArray) (t : Int) : Option ByteArray := l.foldl (fun o x => if x.1 = t then some x.2 else o) o
theorem lastO_cons (x : Wr1) (r : List Wr1) (o : Option ByteArray) (t : Int) : lastO (x :: r) o t = lastO r (if x.1 = t then some x.2 else o) t := rfl
theorem lastO_no (l : List Wr1) (t : Int) : ∀ o, t ∉ l.map Prod.fst → lastO l o t = o := by
  induction l with
  | nil => intro o _; rfl
  | cons x r ih =>
    intro o h
    rw [lastO_cons, if_neg (fun e => h (by simp [e])), ih _ (fun hm => h (by simp [hm]))]
theorem lastO_yes (l : List Wr1) (t : Int) : ∀ o, t ∈ l.map Prod.fst → lastO l o t = some (lastB l t) := by
  have key : ∀ (l : List Wr1) (o : Option ByteArray), t ∈ l.map Prod.fst → lastO l o t = lastO l none t ∧ ∃ v, lastO l none t = some v := by
    intro l
    induction l with
    | nil => intro o h; cases h
    | cons x r ih =>
      intro o h
      by_cases hr : t ∈ r.map Prod.fst
      · rw [lastO_cons, lastO_cons]
        obtain ⟨h1, v, h2⟩ := ih (if x.1 = t then some x.2 else o) hr
        obtain ⟨h3, _⟩ := ih (if x.1 = t then some x.2 else none) hr
        exact ⟨h1.trans h3.symm, v, h3.trans h2⟩
      · have hx : x.1 = t := by
          rcases List.mem_cons.1 h with h | h
          · exact h.symm
          · exact absurd h hr
        rw [lastO_cons, lastO_cons, if_pos hx, if_pos hx]
        exact ⟨rfl, x.2, lastO_no r t _ hr⟩
  intro o h
  obtain ⟨h1, v, h2⟩ := key l o h
  rw [h1, h2]
  have : lastB l t = (lastO l none t).getD .empty := rfl
  rw [this, h2]
  rfl
theorem setI_get (l : List Wr1) (t : Nat) : ∀ h : List ByteArray, t < h.length → (∀ x ∈ l, 0 ≤ x.1) → (setI h l)[t]? = lastO l h[t]? (t : Int) := by
  induction l with
  | nil => intro h _ _; rfl
  | cons x r ih =>
    intro h ht h0
    rw [setI_cons, ih _ (by simpa using ht) (fun y hy => h0 y (by simp [hy])), lastO_cons]
    have hx := h0 x (by simp)
    by_cases e : x.1 = (t : Int)
    · rw [if_pos e]
      have : x.1.toNat = t := by omega
      rw [this, List.getElem?_set_self ht]
    · rw [if_neg e, List.getElem?_set_ne (by omega)]

def headQ (q : Int) : ByteArray := if q = 0 then zeroB 256 else doneB q
/-- A disk that holds home h, its head done at number q. -/
structure Held (N : Nat) (q : Int) (h Z : List ByteArray) : Prop where
  len : Z.length = N
  dim : 140 ≤ N ∧ N ≤ 400
  head : Z[0]? = some (headQ q)
  seq : 0 ≤ q ∧ q < 1000000
  hlen : h.length = N - 111
  home : ∀ t : Nat, t < N - 111 → Z[111 + t]? = h[t]?
  small : ∀ x ∈ Z, x.size ≤ 256
/-- .. whose head is full: redone it holds h' at number q. -/
structure Fulls (N : Nat) (q : Int) (h' : List ByteArray) (T : List Int) (Z : List ByteArray) : Prop where
  len : Z.length = N
  dim : 140 ≤ N ∧ N ≤ 400
  head : Z[0]? = some (fullB q T)
  valid : (HD.mk q true T).validB = true
  seq : 1 ≤ q ∧ q < 1000000
  hlen : h'.length = N - 111
  range : ∀ t ∈ T, 0 ≤ t ∧ 111 + t < (N : Int)
  few : T.length ≤ 110
  copies : ∀ (k : Nat) (t : Int), T[k]? = some t → Z[1 + k]? = h'[t.toNat]?
  rest : ∀ t : Nat, t < N - 111 → (t : Int) ∉ T → Z[111 + t]? = h'[t]?
  size : ∀ k, k < T.length → (Z.getD (1 + k) .empty).size = 256
  small : ∀ x ∈ Z, x.size ≤ 256
theorem head_readQ {q : Int} (h0 : 0 ≤ q) (h1 : q < 1000000) (W : World) : Calls Tryz.prog 129 #[.string (headQ q)] W fun e w' => ∃ A c, e = .returned (.tuple #[.agg #[.int .i64 q, .bool false, .slice A 0 c], .int .i64 0]) ∧ Below W.heap.size W w' := by
  unfold headQ
  by_cases hq : q = 0
  · subst hq
    rw [if_pos rfl]
    exact read_zero W
  · rw [if_neg hq]
    exact read_done h0 (by omega) W
theorem Fulls.ok {N : Nat} {q : Int} {h' Z : List ByteArray} {T : List Int} (h : Fulls N q h' T Z) : RedoOk N q Z T :=
  ⟨h.len, by have := h.dim; omega, h.few, h.range, by have := h.seq; omega, h.size, fun x hx => by have := h.small x hx; omega⟩
theorem Fulls.redone {N : Nat} {q : Int} {h' Z : List ByteArray} {T : List Int} (h : Fulls N q h' T Z) : Held N q h' (redoS Z q T) := by
  have hd := h.dim
  have key : ∀ (ts : List Int) (k : Nat) (s : List ByteArray), (∀ u ∈ ts, 0 ≤ u) → (∀ i t, ts[i]? = some t → Z[1 + (k + i)]? = h'[t.toNat]? ∧ t.toNat < h'.length) → ∀ t ∈ ts, (111 + t).toNat < s.length → (setI s (redoL Z k ts))[(111 + t).toNat]? = h'[t.toNat]? := by
    intro ts
    induction ts with
    | nil => intro k s _ _ t ht; cases ht
    | cons u r ih =>
      intro k s h0 hk t ht hlt
      rw [redoL, setI_cons]
      by_cases hr : t ∈ r
      · exact ih (k + 1) _ (fun v hv => h0 v (by simp [hv])) (fun i v hv => by have := hk (i + 1) v (by simpa using hv); rw [show k + 1 + i = k + (i + 1) by omega]; exact this) t hr (by simpa using hlt)
      · have htu : t = u := by
          rcases List.mem_cons.1 ht with h | h
          · exact h
          · exact absurd h hr
        subst htu
        rw [setI_far _ _ (fun x hx => ?_), List.getElem?_set_self hlt]
        · obtain ⟨h1, h2⟩ := hk 0 t (by simp)
          rw [Nat.add_zero] at h1
          rw [List.getD_eq_getElem?_getD, h1, List.getElem?_eq_getElem h2]
          rfl
        · obtain ⟨i, v, rfl, _, _, hv, _⟩ := redoL_at Z r (k + 1) x hx
          have h1 := h0 v (by simp [hv])
          have h3 := h0 t (by simp)
          simp only
          intro e
          have : v = t := by omega
          exact hr (this ▸ hv)
  have hl : (redoS Z q T).length = N := by unfold redoS; rw [setI_length, setI_length, h.len]
  refine ⟨hl, hd, ?_, by have := h.seq; omega, h.hlen, fun t ht => ?_, fold_small [redoL Z 0 T, [(0, doneB q)]] Z h.ok.fits h.small⟩
  · unfold redoS
    rw [setI_cons]
    show (List.set _ 0 _)[0]? = _
    rw [List.getElem?_set_self (by rw [setI_length, h.len]; omega)]
    unfold headQ
    rw [if_neg (by have := h.seq; omega)]
  · unfold redoS
    rw [setI_far [(0, doneB q)] _ (fun x hx => by rw [List.mem_singleton.1 hx]; simp only; omega)]
    by_cases hm : (t : Int) ∈ T
    · have := key T 0 Z (fun u hu => (h.range u hu).1) (fun i v hv => by
        have hr := h.range v (List.mem_of_getElem? hv)
        rw [Nat.zero_add]
        exact ⟨h.copies i v hv, by rw [h.hlen]; omega⟩) (t : Int) hm (by rw [h.len]; omega)
      rw [show (111 + (t : Int)).toNat = 111 + t by omega, Int.toNat_natCast] at this
      exact this
    · rw [setI_far (redoL Z 0 T) _ (fun x hx => ?_)]
      · exact h.rest t ht hm
      · obtain ⟨i, v, rfl, _, _, hv, _⟩ := redoL_at Z T 0 x hx
        have hr := h.range v hv
        simp only
        intro e
        have : v = (t : Int) := by omega
        exact hm (this ▸ hv)

/-- Where the power went in a commit: as ahead of it, full, or as behind it. -/
inductive LeftQ (N : Nat) (q : Int) (h : List ByteArray) (l : List Wr1) (T : List Int) (Y : List ByteArray) : Prop
  | old (k : Held N q h Y)
  | full (k : Fulls N (q + 1) (setI h l) T Y)
  | new (k : Held N (q + 1) (setI h l) Y)

section
variable {N : Nat} {q : Int} {h s : List ByteArray} {l : List Wr1} {T : List Int}
theorem home_next (hs : Held N q h s) (hok : CommitOk N q l T) {t : Nat} (ht : t < N - 111) : (setI h l)[t]? = if (t : Int) ∈ T then some (lastB l (t : Int)) else h[t]? := by
  have h0 : ∀ x ∈ l, 0 ≤ x.1 := fun x hx => (refE_ok hok.ok x hx).1
  rw [setI_get l t h (by rw [hs.hlen]; exact ht) h0]
  by_cases hm : (t : Int) ∈ T
  · rw [if_pos hm, lastO_yes l _ _ ((hok.mem _).1 hm)]
  · rw [if_neg hm, lastO_no l _ _ (fun hh => hm ((hok.mem _).2 hh))]
theorem held_next (hs : Held N q h s) (hok : CommitOk N q l T) (hq : q + 1 < 1000000) : Held N (q + 1) (setI h l) (doneS s q l T) := by
  have hd := hs.dim
  refine ⟨by rw [CommitOk.done_len]; exact hs.len, hd, ?_, by have := hs.seq; omega, by rw [setI_length]; exact hs.hlen, fun t ht => ?_, fold_small _ _ hok.fits hs.small⟩
  · rw [hok.done_head s hs.len]
    unfold headQ
    rw [if_neg (by have := hs.seq; omega)]
  · have := hok.done_at s hs.len (t := (t : Int)) (by omega) (by omega)
    rw [show (111 + (t : Int)).toNat = 111 + t by omega] at this
    rw [this, home_next hs hok ht, hs.home t ht]

theorem leftQ_cases (hs : Held N q h s) (hok : CommitOk N q l T) (hq : q + 1 < 1000000) {i : Nat} {g : List Wr1} {Y : List ByteArray}
    (hi : (groupsL q l T)[i]? = some g) (hp : Part (((groupsL q l T).take i).foldl setI s) (natW g) Y) : LeftQ N q h l T Y := by
  have hd := hs.dim
  have hf := hok.fits
  have hfew := hok.few
  have hcopy : ∀ (x : Wr1), x ∈ copiesL l 0 T → 1 ≤ x.1 ∧ x.1 ≤ 110 := fun x hx => by
    obtain ⟨k, t, rfl, a1, a2, a3⟩ := copies_at _ _ 0 x hx
    simp only
    omega
  have hhome : ∀ (x : Wr1), x ∈ homeL l T → ∃ t : Nat, (t : Int) ∈ T ∧ x.1 = 111 + (t : Int) ∧ t < N - 111 := fun x hx => by
    obtain ⟨t, ht, rfl⟩ := home_at _ _ hx
    have hr := hok.range t ht
    refine ⟨t.toNat, ?_, by simp only; omega, by omega⟩
    rw [show ((t.toNat : Nat) : Int) = t by omega]
    exact ht
  have hlen : ∀ (G : List (List Wr1)) (s : List ByteArray), (G.foldl setI s).length = s.length := by
    intro G
    induction G with
    | nil => intro s; rfl
    | cons g r ih => intro s; show (r.foldl setI (setI s g)).length = _; rw [ih, setI_length]
  have hsm := fold_small ((groupsL q l T).take i) s (fun g' hg' => hf g' (List.mem_of_mem_take hg')) hs.small
  have hYs := part_small hp hsm (hf g (List.mem_of_getElem? hi))
  have hYl : Y.length = N := by rw [hp.1, hlen, hs.len]
  have hqs := hs.seq
  have mkFull : Y[0]? = some (fullB (q + 1) T) → (∀ (k : Nat) (t : Int), T[k]? = some t → Y[1 + k]? = some (lastB l t)) → (∀ t : Nat, t < N - 111 → (t : Int) ∉ T → Y[111 + t]? = h[t]?) → Fulls N (q + 1) (setI h l) T Y := fun e1 e2 e3 => by
    refine ⟨hYl, hd, e1, hok.valid, by omega, by rw [setI_length]; exact hs.hlen, hok.range, hfew, fun k t ht => ?_, fun t ht hm => ?_, fun k hk => ?_, hYs⟩
    · have hr := hok.range t (List.mem_of_getElem? ht)
      rw [e2 k t ht, home_next hs hok (show t.toNat < N - 111 by omega), show ((t.toNat : Nat) : Int) = t by omega, if_pos (List.mem_of_getElem? ht)]
    · rw [e3 t ht hm, home_next hs hok ht, if_neg hm]
    · have ht : T[k]? = some (T[k]'hk) := List.getElem?_eq_getElem hk
      rw [List.getD_eq_getElem?_getD, e2 k _ ht]
      exact hok.size _ (List.mem_of_getElem? ht)
  have hcopyAt : ∀ (k : Nat) (t : Int), T[k]? = some t → (setI s (copiesL l 0 T))[1 + k]? = some (lastB l t) := fun k t ht => by
    have := copies_here l T 0 s (by rw [hs.len]; omega) k t ht
    rw [Nat.zero_add] at this
    exact this
  have hklt : ∀ (k : Nat) (t : Int), T[k]? = some t → k < T.length := fun k t ht => by
    rcases Nat.lt_or_ge k T.length with h | h
    · exact h
    · rw [List.getElem?_eq_none h] at ht; cases ht
  have hset0 : ∀ (X : List ByteArray) (v : ByteArray), X.length = N → (setI X [(0, v)])[0]? = some v := fun X v hX => by
    rw [setI_cons]
    show (List.set _ 0 _)[0]? = _
    rw [List.getElem?_set_self (by omega)]
  unfold groupsL at hi hp
  match i, hi with
  | 0, hi =>
    injection hi with hi
    subst hi
    have hp : Part s (natW (copiesL l 0 T)) Y := hp
    refine .old ⟨hYl, hd, ?_, hqs, hs.hlen, fun t ht => ?_, hYs⟩
    · rw [part_far hp (fun x hx => by have := hcopy x hx; omega)]; exact hs.head
    · rw [part_far hp (fun x hx => by have := hcopy x hx; omega)]; exact hs.home t ht
  | 1, hi =>
    injection hi with hi
    subst hi
    have hp : Part (setI s (copiesL l 0 T)) (natW [(0, bs (HD.mk (q + 1) true T).text)]) Y := hp
    rcases hp.2 0 with e | ⟨x, hx, _, e⟩
    · refine .old ⟨hYl, hd, ?_, hqs, hs.hlen, fun t ht => ?_, hYs⟩
      · rw [e, setI_far _ _ (fun x hx => by have := hcopy x hx; omega)]; exact hs.head
      · rw [part_far hp (fun x hx => by rw [List.mem_singleton.1 hx]; simp only; omega), setI_far _ _ (fun x hx => by have := hcopy x hx; omega)]; exact hs.home t ht
    · have hx : x = (((0 : Int)).toNat, bs (HD.mk (q + 1) true T).text) := List.mem_singleton.1 hx
      subst hx
      refine .full (mkFull e (fun k t ht => ?_) (fun t ht _ => ?_))
      · have := hklt k t ht
        rw [part_far hp (fun x hx => by rw [List.mem_singleton.1 hx]; simp only; omega)]
        exact hcopyAt k t ht
      · rw [part_far hp (fun x hx => by rw [List.mem_singleton.1 hx]; simp only; omega), setI_far _ _ (fun x hx => by have := hcopy x hx; omega)]; exact hs.home t ht
  | 2, hi =>
    injection hi with hi
    subst hi
    have hp : Part (setI (setI s (copiesL l 0 T)) [(0, bs (HD.mk (q + 1) true T).text)]) (natW (homeL l T)) Y := hp
    refine .full (mkFull ?_ (fun k t ht => ?_) (fun t ht hm => ?_))
    · rw [part_far hp (fun x hx => by obtain ⟨u, _, e, _⟩ := hhome x hx; omega)]
      exact hset0 _ _ (by rw [setI_length, hs.len])
    · have := hklt k t ht
      rw [part_far hp (fun x hx => by obtain ⟨u, _, e, _⟩ := hhome x hx; omega), setI_far _ _ (fun x hx => by rw [List.mem_singleton.1 hx]; simp only; omega)]
      exact hcopyAt k t ht
    · rw [part_far hp (fun x hx => by
        obtain ⟨u, hu, e, _⟩ := hhome x hx
        intro e2
        have : u = t := by omega
        exact hm (this ▸ hu)), setI_far _ _ (fun x hx => by rw [List.mem_singleton.1 hx]; simp only; omega), setI_far _ _ (fun x hx => by have := hcopy x hx; omega)]
      exact hs.home t ht
  | 3, hi =>
    injection hi with hi
    subst hi
    have hp : Part (setI (setI (setI s (copiesL l 0 T)) [(0, bs (HD.mk (q + 1) true T).text)]) (homeL l T)) (natW [(0, bs (HD.mk (q + 1) false []).text)]) Y := hp
    have hrest : ∀ t : Nat, t < N - 111 → Y[111 + t]? = (doneS s q l T)[111 + t]? := fun t ht => by
      rw [part_far hp (fun x hx => by rw [List.mem_singleton.1 hx]; simp only; omega)]
      unfold doneS groupsL
      simp only [List.foldl_cons, List.foldl_nil]
      rw [setI_far [(0, bs (HD.mk (q + 1) false []).text)] _ (fun x hx => by rw [List.mem_singleton.1 hx]; simp only; omega)]
    have hnx := held_next hs hok hq
    rcases hp.2 0 with e | ⟨x, hx, _, e⟩
    · refine .full (mkFull ?_ (fun k t ht => ?_) (fun t ht hm => ?_))
      · rw [e, setI_far _ _ (fun x hx => by obtain ⟨u, _, e, _⟩ := hhome x hx; omega)]
        exact hset0 _ _ (by rw [setI_length, hs.len])
      · have := hklt k t ht
        rw [part_far hp (fun x hx => by rw [List.mem_singleton.1 hx]; simp only; omega), setI_far _ _ (fun x hx => by obtain ⟨u, _, e, _⟩ := hhome x hx; omega), setI_far _ _ (fun x hx => by rw [List.mem_singleton.1 hx]; simp only; omega)]
        exact hcopyAt k t ht
      · rw [hrest t ht, hnx.home t ht, home_next hs hok ht, if_neg hm]
    · have hx : x = (((0 : Int)).toNat, bs (HD.mk (q + 1) false []).text) := List.mem_singleton.1 hx
      subst hx
      refine .new ⟨hYl, hd, ?_, by omega, by rw [setI_length]; exact hs.hlen, fun t ht => by rw [hrest t ht]; exact hnx.home t ht, hYs⟩
      rw [e]
      unfold headQ
      rw [if_neg (by omega)]
      rfl
end
end Go.Proofs.YtolbnkpakjdnnaaGreatDoor

namespace Go.Proofs.YtolbnkpakjdnnaaGreatDoor
open Go.RowKit

theorem wp_region_store {P : Program} {ops : Array Oper} {Q : Exit → Act → World → Prop} (lo k hi : Nat) (V : Nat → Value) (J J' : World → Prop) {id : Nat} {a : Act} {w : World}
    (hm : P.follows .mixedOrders = true) (he : early .any ops = true) (hsz : ops.size = k + 1) (hsink : sinkL ops k = true) (hhi : lo + k = hi + 1) (hlo : lo + k ≤ a.tmps.size)
    (hJ : ∀ w w' : World, J w → w.grownBy w' none → J w') (h0 : J w)
    (hops : ∀ i, i < k → ∀ (x : Act) (w' : World), FrameKept a lo hi x → J w' → (∀ j ∈ waitsFor .any ops i, j < k → x.tmps[lo + j]?.getD undef = V j) → wpOp P ops Q i (fun x' w'' => x' = x.put (some (lo + i)) (V i) ∧ w'.grownBy w'' none) x w')
    (hlast : ∀ (x : Act) (w' : World), FrameKept a lo hi x → J w' → (∀ j, j < k → x.tmps[lo + j]?.getD undef = V j) → wpOp P ops Q k (fun x' w'' => x' = x.put none undef ∧ J' w'') x w')
    (hK : ∀ (x : Act) (w' : World), FrameKept a lo hi x → (∀ j, j < k → x.tmps[lo + j]?.getD undef = V j) → J' w' → Q .normal x w') : (Code.region id ops true).wp P Q a w := by
  have hcl : ∀ (L : Nat → Bool) (i : Nat), (∀ i, L i = true → ∀ j ∈ waitsFor .any ops i, L j = true) → (∀ j ∈ waitsFor .any ops i, L j = true) → ∀ n, (fun j => if i = j then true else L j) n = true → ∀ j ∈ waitsFor .any ops n, (fun j => if i = j then true else L j) j = true := by
    intro L i h1 h2 n hn j hj
    by_cases hij : i = j
    · simp [hij]
    · simp only [if_neg hij]
      by_cases hin : i = n
      · subst hin; exact h2 j hj
      · simp only [if_neg hin] at hn
        exact h1 n hn j hj
  refine wp_region_kept (fun L x w => FrameKept a lo hi x ∧ Left k lo (fun i v => v = V i) L x ∧ (∀ i, L i = true → ∀ j ∈ waitsFor .any ops i, L j = true) ∧ (L k = true → J' w) ∧ (L k = false → J w)) hm he ?_ ?_ ?_
  · exact ⟨FrameKept.refl _ _ _, (fun _ _ h => by cases h), (fun _ h => by cases h), (fun h => by cases h), fun _ => hJ _ _ h0 (by_drew (by_refl _ _))⟩
  · intro L x w' i ⟨hF, hL, hc, h1, h2⟩ hi hLi hw
    by_cases hik : i = k
    · subst hik
      have hall : ∀ j, j < i → L j = true := fun j hj => by
        have := sink_done (L := fun j => if i = j then true else L j) hsink (hcl L i hc hw) (by simp) j hj
        simpa [show i ≠ j by omega] using this
      refine wpOp_mono (fun x' w'' h => ?_) (hlast x w' hF (h2 hLi) (fun j hj => hL j hj (hall j hj)))
      obtain ⟨rfl, hj'⟩ := h
      refine ⟨hF, fun j hj hLj => ?_, hcl L i hc hw, fun _ => hj', fun h => by simp at h⟩
      simp only [if_neg (show ¬ i = j by omega)] at hLj
      exact hL j hj hLj
    · have hi : i < k := by omega
      have hk : L k = false := by
        cases hb : L k with
        | false => rfl
        | true =>
          have := sink_done hsink hc hb i hi
          rw [hLi] at this
          cases this
      refine wpOp_mono (fun x' w'' h => ?_) (hops i hi x w' hF (h2 hk) (fun j hj hjk => hL j hjk (hw j hj)))
      obtain ⟨rfl, hg⟩ := h
      refine ⟨hF.put _ _ (by omega) (by omega), hL.next i (V i) (by rw [hF.2.1]; omega) (fun _ _ _ _ hu => hu) rfl, hcl L i hc hw, fun h => ?_, fun _ => hJ _ _ (h2 hk) hg⟩
      simp only [if_neg hik, hk] at h
      cases h
  · intro L x w' ⟨hF, hL, _, h1, _⟩ hall
    exact hK x w' hF (fun j hj => hL j hj (hall j (by omega))) (h1 (hall k (by omega)))
theorem arr31 (a : Array Value) (h : a.size = 31) : ∃ y0 y1 y2 y3 y4 y5 y6 y7 y8 y9 y10 y11 y12 y13 y14 y15 y16 y17 y18 y19 y20 y21 y22 y23 y24 y25 y26 y27 y28 y29 y30 : Value, a = #[y0, y1, y2, y3, y4, y5, y6, y7, y8, y9, y10, y11, y12, y13, y14, y15, y16, y17, y18, y19, y20, y21, y22, y23, y24, y25, y26, y27, y28, y29, y30] := by
  obtain ⟨l⟩ := a
  have h : l.length = 31 := h
  obtain ⟨y0, t1, e1, h1⟩ := cons_of h
  obtain ⟨y1, t2, e2, h2⟩ := cons_of h1
  obtain ⟨y2, t3, e3, h3⟩ := cons_of h2
  obtain ⟨y3, t4, e4, h4⟩ := cons_of h3
  obtain ⟨y4, t5, e5, h5⟩ := cons_of h4
  obtain ⟨y5, t6, e6, h6⟩ := cons_of h5
  obtain ⟨y6, t7, e7, h7⟩ := cons_of h6
  obtain ⟨y7, t8, e8, h8⟩ := cons_of h7
  obtain ⟨y8, t9, e9, h9⟩ := cons_of h8
  obtain ⟨y9, t10, e10, h10⟩ := cons_of h9
  obtain ⟨y10, t11, e11, h11⟩ := cons_of h10
  obtain ⟨y11, t12, e12, h12⟩ := cons_of h11
  obtain ⟨y12, t13, e13, h13⟩ := cons_of h12
  obtain ⟨y13, t14, e14, h14⟩ := cons_of h13
  obtain ⟨y14, t15, e15, h15⟩ := cons_of h14
  obtain ⟨y15, t16, e16, h16⟩ := cons_of h15
  obtain ⟨y16, t17, e17, h17⟩ := cons_of h16
  obtain ⟨y17, t18, e18, h18⟩ := cons_of h17
  obtain ⟨y18, t19, e19, h19⟩ := cons_of h18
  obtain ⟨y19, t20, e20, h20⟩ := cons_of h19
  obtain ⟨y20, t21, e21, h21⟩ := cons_of h20
  obtain ⟨y21, t22, e22, h22⟩ := cons_of h21
  obtain ⟨y22, t23, e23, h23⟩ := cons_of h22
  obtain ⟨y23, t24, e24, h24⟩ := cons_of h23
  obtain ⟨y24, t25, e25, h25⟩ := cons_of h24
  obtain ⟨y25, t26, e26, h26⟩ := cons_of h25
  obtain ⟨y26, t27, e27, h27⟩ := cons_of h26
  obtain ⟨y27, t28, e28, h28⟩ := cons_of h27
  obtain ⟨y28, t29, e29, h29⟩ := cons_of h28
  obtain ⟨y29, t30, e30, h30⟩ := cons_of h29
  obtain ⟨y30, t31, e31, h31⟩ := cons_of h30
  have e32 := List.eq_nil_of_length_eq_zero h31
  exact ⟨y0, y1, y2, y3, y4, y5, y6, y7, y8, y9, y10, y11, y12, y13, y14, y15, y16, y17, y18, y19, y20, y21, y22, y23, y24, y25, y26, y27, y28, y29, y30, by rw [e1, e2, e3, e4, e5, e6, e7, e8, e9, e10, e11, e12, e13, e14, e15, e16, e17, e18, e19, e20, e21, e22, e23, e24, e25, e26, e27, e28, e29, e30, e31, e32]⟩
end Go.Proofs.YtolbnkpakjdnnaaGreatDoor

namespace Go.Proofs.YtolbnkpakjdnnaaGreatDoor
open Go.RowKit

set_option maxRecDepth 100000 in
set_option maxHeartbeats 2000000 in
theorem ramong_any (x : Int) (A : Option Addr) (c n : Nat) (l : List Int) (w : World) (hn : l.length = n) (hx : Ints w w.heap.size A l) (hb : n ≤ 1000000) :
    Calls Tryz.prog 21 #[.slice A n c, .int .i64 x] w fun e w' => e = .returned (.bool (decide (x ∈ l))) ∧ w' = w := by
  have HX := Lib.hid hx
  have HM := Lib.hid hn
  clear hx hn
  go_enter Tryz.func21, Tryz.ntmps21
  go_wp2_with fail
  go_loopw [5] (fun i wr => ∃ (j : Nat), j ≤ n ∧ i = .int .i64 j ∧ x ∉ l.take j ∧ wr = w) (fun i _ => n - (intOf i).toNat)
  case atStart => exact ⟨0, Nat.zero_le _, rfl, by simp, rfl⟩
  case round =>
    obtain ⟨j, hj, rfl, hno, rfl⟩ := hrel
    have HNO := Lib.hid hno
    clear hno
    by_cases hlt : j < n
    · have hjl : j < l.length := by rw [HM.out]; exact hlt
      obtain ⟨b, off, hA, hbB, hc⟩ := HX.out (by omega)
      obtain ⟨y, hy⟩ : ∃ y, y = l[j] := ⟨_, rfl⟩
      have hyj : l[j]? = some y := by rw [hy]; exact List.getElem?_eq_getElem hjl
      have E2 : Hid (l.take (j + 1) = l.take j ++ [y]) := Lib.hid (by rw [List.take_add_one, hyj]; rfl)
      have HYM := Lib.hid (List.mem_of_getElem? hyj)
      have d0 := hc j y hyj
      subst hA
      have hjI : (j : Int) < (n : Int) := by omega
      clear hy hyj hc hjl
      by_cases hxy : y = x
      · subst hxy
        go_wp2_with fail
        go_ret
        exact ⟨by rw [decide_eq_true HYM.out]; rfl, rfl⟩
      · have HNE := Lib.hid hxy
        go_wp2_with fail
        go_roundw
        case rel =>
          refine ⟨j + 1, by omega, by go_num, fun h => ?_, by first | rfl | trivial⟩
          rw [E2.out] at h
          rcases List.mem_append.1 h with h | h
          · exact HNO.out h
          · exact HNE.out (List.mem_singleton.1 h).symm
        case measure => simp [intOf]; omega
    · obtain rfl : j = n := by omega
      have htk : l.take j = l := List.take_of_length_le (by rw [HM.out]; exact Nat.le_refl _)
      rw [htk] at HNO
      clear htk
      go_wp2_with fail
      go_ret
      exact ⟨by rw [decide_eq_false HNO.out]; rfl, rfl⟩

set_option maxRecDepth 100000 in
set_option maxHeartbeats 2000000 in
theorem rdrop_any (x : Int) (A : Option Addr) (c n : Nat) (l : List Int) (w : World) (hn : l.length = n) (hx : Ints w w.heap.size A l) (hb : n ≤ 1000000) :
    Calls Tryz.prog 36 #[.slice A n c, .int .i64 x] w fun e w' => ∃ A' c', e = .returned (.slice A' (dropL x l).length c') ∧ w'.ownsRow w.heap.size 3 1 (.slice A' (dropL x l).length c') (dropL x l).length ((dropL x l).map (Value.int .i64)) ∧ Below w.heap.size w w' := by
  obtain ⟨i0, hi, hz0, hz1, hz2⟩ := info_parts hints_info
  have HX := Lib.hid hx
  have HM := Lib.hid hn
  clear hx hn
  go_enter Tryz.func36, Tryz.ntmps36
  go_wp2_with fail
  go_loopw [5, 6] (fun v i wr => ∃ (j : Nat) (xs : List Int), j ≤ n ∧ i = .int .i64 j ∧ xs = dropL x (l.take j) ∧ xs.length ≤ j ∧ wr.ownsRow w.heap.size 3 1 v xs.length (xs.map (Value.int .i64)) ∧ Below w.heap.size w wr) (fun _ i _ => n - (intOf i).toNat)
  case atStart => exact ⟨0, [], Nat.zero_le _, rfl, rfl, Nat.le_refl _, World.ownsRow_nil _ _ _ _, Below.refl _ _⟩
  case round =>
    obtain ⟨j, xs, hj, rfl, hxs, hxl, hrow, hbr⟩ := hrel
    have HXS := Lib.hid hxs
    have HRW := Lib.hid hrow
    have HBR := Lib.hid hbr
    clear hxs hrow hbr
    by_cases hlt : j < n
    · have hjl : j < l.length := by rw [HM.out]; exact hlt
      obtain ⟨b, off, hA, hbB, hc⟩ := HX.out (by omega)
      obtain ⟨y, hy⟩ : ∃ y, y = l[j] := ⟨_, rfl⟩
      have hyj : l[j]? = some y := by rw [hy]; exact List.getElem?_eq_getElem hjl
      have E2 : Hid (dropL x (l.take (j + 1)) = if y ≠ x then xs ++ [y] else xs) := Lib.hid (by
        rw [List.take_add_one, hyj]
        unfold dropL
        rw [List.filter_append, HXS.out]
        by_cases e : y = x
        · rw [if_neg (by simp [e])]
          simp [e, dropL]
        · rw [if_pos e]
          simp [e, dropL])
      have d0 : wr.cell? ⟨b, off + j, none⟩ = some (.int .i64 y) := (HBR.out.cell (p := ⟨b, off + j, none⟩) hbB).trans (hc j y hyj)
      subst hA
      have hjI : (j : Int) < (n : Int) := by omega
      clear hy hyj hc hjl
      by_cases hxy : y = x
      · rw [if_neg (by simp [hxy])] at E2
        subst hxy
        go_wp2_with fail
        go_roundw
        case rel => exact ⟨j + 1, xs, by omega, by go_num, E2.out.symm, by omega, HRW.out, HBR.out⟩
        case measure => simp [intOf]; omega
      · rw [if_pos hxy] at E2
        go_wp2_with (at_builtin; refine wpList_append_lies _ rfl (.tmp 19) (.tmp 24) 30 rfl w.heap.size 3 i0 (.int .i64 0) 1 8 Tryz.underlying30 hi hz0 hz1 hz2 rfl (by omega) _ xs.length _ rfl (HRW.out.alloc _) ⟨wr.heap.size, 0, none⟩ 1 1 [.int .i64 y] rfl rfl ?c1 ?c2 (by omega) (by unfold maxLen; omega) (by omega) (by have := HBR.out.size; simp; omega) _ rfl ?_)
        case c1 =>
          intro a u ha
          match a, ha with
          | 0, ha => simp at ha; subst ha; simp [Addr.add]
        case c2 => intro u hu; simp at hu; subst hu; rfl
        intro g2 cap w3 hown hg hor hlt1
        have HB3 : Hid (Below w.heap.size w w3) := Lib.hid ((HBR.out.alloc HBR.out.size _).grown hg (by have := HBR.out.size; simp; omega) (fun q e => (HRW.out.lt q e).1))
        have HR3 : Hid (w3.ownsRow w.heap.size 3 1 (.slice (some ⟨g2, 0, none⟩) (xs.length + 1) cap) (xs.length + 1) ((xs ++ [y]).map (Value.int .i64))) := Lib.hid (by rw [List.map_append]; exact hown)
        clear hown hg hor hlt1
        go_wp2_with fail
        go_roundw
        case rel =>
          refine ⟨j + 1, xs ++ [y], by omega, by go_num, E2.out.symm, by simp; omega, ?_, HB3.out⟩
          rw [List.length_append]
          exact HR3.out
        case measure => simp [intOf]; omega
    · obtain rfl : j = n := by omega
      have htk : l.take j = l := List.take_of_length_le (by rw [HM.out]; exact Nat.le_refl _)
      rw [htk] at HXS
      obtain rfl : xs = dropL x l := HXS.out
      obtain ⟨p, cap, rfl⟩ : ∃ p cap, u5 = .slice p (dropL x l).length cap := by
        obtain ⟨p, cap, e, _⟩ := row_slice' HRW.out
        exact ⟨p, cap, e⟩
      clear htk
      go_wp2_with fail
      go_ret
      exact ⟨_, _, rfl, HRW.out, HBR.out⟩
end Go.Proofs.YtolbnkpakjdnnaaGreatDoor

namespace Go.Proofs.YtolbnkpakjdnnaaGreatDoor
open Go.RowKit

theorem Ints.two {w : World} {b : Nat} {k m : Int} (h : Blk w b 3 #[.int .i64 k, .int .i64 m]) : Ints w w.heap.size (some ⟨b, 0, none⟩) [k, m] := ints_blk2 h
theorem put02 : putEach [0, 2] = [0, 2] := by decide
theorem put1 : putL 1 [0, 2] = [0, 1, 2] := by decide
theorem put3 : putL 3 [0, 1, 2] = [0, 1, 2, 3] := by decide
theorem least1 : Least [0, 2] 1 := ⟨fun i hi => by obtain rfl : i = 0 := by omega
                                                   decide, by decide⟩
theorem least3 : Least [0, 1, 2] 3 := ⟨fun i hi => by
  rcases (show i = 0 ∨ i = 1 ∨ i = 2 by omega) with rfl | rfl | rfl <;> decide, by decide⟩
end Go.Proofs.YtolbnkpakjdnnaaGreatDoor
