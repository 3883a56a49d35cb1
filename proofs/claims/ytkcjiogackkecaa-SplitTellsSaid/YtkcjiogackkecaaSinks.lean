/-
  A region that draws its order: operations of known values in any order, then others that each wait for all before them. No statement is proved here.
-/
import Derived.Test.YtkcjiogackkecaaRegionApp
namespace Go.Proofs.Ytkcjiogackkecaa
open Go.RowKit

/-- Slots from lo on, written. -/
def putAll (lo k : Nat) (V : Nat → Value) (t : Array Value) : Array Value := (List.range k).foldl (fun t i => t.setIfInBounds (lo + i) (V i)) t
theorem putAll_size (lo k : Nat) (V : Nat → Value) (t : Array Value) : (putAll lo k V t).size = t.size := by
  unfold putAll
  induction k with
  | zero => rfl
  | succ k ih => rw [List.range_succ, List.foldl_append]; simpa using ih
theorem putAll_get (lo k : Nat) (V : Nat → Value) (t : Array Value) (h : lo + k ≤ t.size) (s : Nat) : (putAll lo k V t)[s]? = if lo ≤ s ∧ s < lo + k then some (V (s - lo)) else t[s]? := by
  induction k with
  | zero => rw [if_neg (by omega)]; rfl
  | succ k ih =>
    have ih := ih (by omega)
    have e : putAll lo (k + 1) V t = (putAll lo k V t).setIfInBounds (lo + k) (V k) := by unfold putAll; rw [List.range_succ, List.foldl_append]; rfl
    rw [e]
    by_cases hs : lo + k = s
    · subst hs
      rw [Array.getElem?_setIfInBounds_self, if_pos (by rw [putAll_size]; omega), if_pos (by omega)]
      congr 2
      omega
    · rw [Array.getElem?_setIfInBounds_ne hs, ih]
      by_cases hc : lo ≤ s ∧ s < lo + k
      · rw [if_pos hc, if_pos (by omega)]
      · rw [if_neg hc, if_neg (by omega)]
theorem frame_all {a x : Act} {lo k hi : Nat} {V : Nat → Value} (h : FrameKept a lo hi x) (hhi : lo + k = hi + 1) (hlo : lo + k ≤ a.tmps.size) (hv : ∀ j, j < k → x.tmps[lo + j]?.getD undef = V j) : x = ⟨putAll lo k V a.tmps, a.defers⟩ := by
  obtain ⟨X, D⟩ := x
  obtain ⟨h1, h2, h3⟩ := h
  obtain rfl : D = a.defers := h1
  congr 1
  apply Array.ext_getElem?
  intro s
  rw [putAll_get _ _ _ _ hlo]
  by_cases hs : lo ≤ s ∧ s < lo + k
  · rw [if_pos hs]
    have := hv (s - lo) (by omega)
    rw [show lo + (s - lo) = s by omega] at this
    have hlt : s < X.size := by have : X.size = a.tmps.size := h2; omega
    rw [Array.getElem?_eq_getElem hlt] at this ⊢
    exact congrArg some this
  · rw [if_neg hs]
    exact h3 s (by omega)

theorem exec_append {P : Program} {o : Oper} {x : Act} {s1 s2 : Operand} {t : TypeId} {v1 v2 v : Value} {w w' : World} (ho : o.op = .call { callee := .builtin .append, args := #[s1, s2], argTypes := #[t, t] }) (h1 : x.eval s1 = v1) (h2 : x.eval s2 = v2)
    (hr : (Builtin.append_ #[t, t] o.type #[v1, v2]).run P w = .ok v w') : (execOp x.eval o).run P w = .ok (.value v) w' := by
  unfold execOp
  simp only [ho, resolve, invoke, builtin, Sem.run_bind, Sem.run_pure, Result.andThen_ok, List.map_toArray, List.map_cons, List.map_nil, h1, h2, hr]

theorem wp_region_sinks {P : Program} {ops : Array Oper} {Q : Exit → Act → World → Prop} (lo k hi m : Nat) (V : Nat → Value) (J : (Nat → Bool) → World → Prop) {id : Nat} {a : Act} {w : World}
    (hm : P.follows .mixedOrders = true) (he : early .any ops = true) (hsz : ops.size = k + m) (hm0 : 0 < m) (hsink : (List.range' k m).all (fun i => sinkL ops i) = true) (hhi : lo + k = hi + 1) (hlo : lo + k ≤ a.tmps.size)
    (h0 : J (fun _ => false) w.drew)
    (hops : ∀ i, i < k → ∀ (L : Nat → Bool) (x : Act) (w' : World), (∀ n, L n = true → ∀ j ∈ waitsFor .any ops n, L j = true) → FrameKept a lo hi x → L i = false → J L w' → (∀ j ∈ waitsFor .any ops i, L j = true) → (∀ j ∈ waitsFor .any ops i, j < k → x.tmps[lo + j]?.getD undef = V j) → wpOp P ops Q i (fun x' w'' => x' = x.put (some (lo + i)) (V i) ∧ J (fun j => if i = j then true else L j) w'') x w')
    (hrest : ∀ (L : Nat → Bool) (w' : World), (∀ j, j < k → L j = true) → J L w' → wpOps P ops Q (List.range' k m) ⟨putAll lo k V a.tmps, a.defers⟩ w') : (Code.region id ops true).wp P Q a w := by
  have hsk : ∀ i, k ≤ i → i < k + m → sinkL ops i = true := fun i h1 h2 => List.all_eq_true.1 hsink i (by rw [List.mem_range'_1]; omega)
  have hcl : ∀ (L : Nat → Bool) (i : Nat), (∀ i, L i = true → ∀ j ∈ waitsFor .any ops i, L j = true) → (∀ j ∈ waitsFor .any ops i, L j = true) → ∀ n, (fun j => if i = j then true else L j) n = true → ∀ j ∈ waitsFor .any ops n, (fun j => if i = j then true else L j) j = true := by
    intro L i h1 h2 n hn j hj
    by_cases hij : i = j
    · simp [hij]
    · simp only [if_neg hij]
      by_cases hin : i = n
      · subst hin; exact h2 j hj
      · simp only [if_neg hin] at hn
        exact h1 n hn j hj
  refine wp_region_kept (fun L x w => (∀ i, L i = true → ∀ j ∈ waitsFor .any ops i, L j = true) ∧
    (((∀ i, k ≤ i → L i = false) ∧ FrameKept a lo hi x ∧ Left k lo (fun i v => v = V i) L x ∧ J L w) ∨
      ∃ t, k < t ∧ t ≤ k + m ∧ (∀ i, i < t → L i = true) ∧ (∀ i, t ≤ i → L i = false) ∧ wpOps P ops Q (List.range' t (k + m - t)) x w)) hm he ?_ ?_ ?_
  · exact ⟨(fun _ h => by cases h), .inl ⟨fun _ _ => rfl, FrameKept.refl _ _ _, (fun _ _ h => by cases h), h0⟩⟩
  · intro L x w' i ⟨hc, hI⟩ hi hLi hw
    have hc' := hcl L i hc hw
    rcases hI with ⟨hno, hF, hL, hJ⟩ | ⟨t, ht1, ht2, hyes, hno, hO⟩
    · by_cases hik : i < k
      · refine wpOp_mono (fun x' w'' h => ?_) (hops i hik L x w' hc hF hLi hJ hw (fun j hj hjk => hL j hjk (hw j hj)))
        obtain ⟨rfl, hj'⟩ := h
        refine ⟨hc', .inl ⟨fun n hn => ?_, hF.put _ _ (by omega) (by omega), hL.next i (V i) (by rw [hF.2.1]; omega) (fun _ _ _ _ hu => hu) rfl, hj'⟩⟩
        simp only [if_neg (show ¬ i = n by omega)]
        exact hno n hn
      · have hall := sink_done (L := fun j => if i = j then true else L j) (hsk i (by omega) (by omega)) hc' (by simp)
        have hik2 : i = k := by
          rcases Nat.lt_or_ge k i with h | h
          · have := hall k h
            simp only [if_neg (show ¬ i = k by omega), hno k (Nat.le_refl _)] at this
            cases this
          · omega
        subst hik2
        have hallL : ∀ j, j < i → L j = true := fun j hj => by
          have := hall j hj
          simpa [show i ≠ j by omega] using this
        have hx := frame_all hF hhi hlo (fun j hj => hL j hj (hallL j hj))
        have hr := hrest L w' hallL hJ
        rw [← hx] at hr
        obtain ⟨m', rfl⟩ : ∃ m', m = m' + 1 := ⟨m - 1, by omega⟩
        rw [List.range'_succ, wpOps_cons] at hr
        refine wpOp_mono (fun x' w'' h => ⟨hc', .inr ⟨i + 1, by omega, by omega, fun j hj => ?_, fun j hj => ?_, ?_⟩⟩) hr
        · by_cases e : i = j
          · simp [e]
          · simp only [if_neg e]; exact hallL j (by omega)
        · simp only [if_neg (show ¬ i = j by omega)]; exact hno j (by omega)
        · rw [show i + (m' + 1) - (i + 1) = m' by omega]; exact h
    · have hit : i = t := by
        have h1 : t ≤ i := by
          rcases Nat.lt_or_ge i t with h | h
          · rw [hyes i h] at hLi; cases hLi
          · exact h
        rcases Nat.lt_or_ge t i with h | h
        · have := sink_done (L := fun j => if i = j then true else L j) (hsk i (by omega) (by omega)) hc' (by simp) t h
          simp only [if_neg (show ¬ i = t by omega), hno t (Nat.le_refl _)] at this
          cases this
        · omega
      subst hit
      obtain ⟨d, hd⟩ : ∃ d, k + m - i = d + 1 := ⟨k + m - i - 1, by omega⟩
      rw [hd, List.range'_succ, wpOps_cons] at hO
      refine wpOp_mono (fun x' w'' h => ⟨hc', .inr ⟨i + 1, by omega, by omega, fun j hj => ?_, fun j hj => ?_, ?_⟩⟩) hO
      · by_cases e : i = j
        · simp [e]
        · simp only [if_neg e]; exact hyes j (by omega)
      · simp only [if_neg (show ¬ i = j by omega)]; exact hno j (by omega)
      · rw [show k + m - (i + 1) = d by omega]; exact h
  · intro L x w' ⟨_, hI⟩ hall
    rcases hI with ⟨hno, _⟩ | ⟨t, ht1, ht2, _, hno, hO⟩
    · have := hall k (by omega)
      rw [hno k (Nat.le_refl _)] at this
      cases this
    · have e : t = k + m := by
        rcases Nat.lt_or_ge t (k + m) with h | h
        · have := hall t (by omega)
          rw [hno t (Nat.le_refl _)] at this
          cases this
        · omega
      subst e
      rw [Nat.sub_self] at hO
      exact hO
end Go.Proofs.Ytkcjiogackkecaa
