/-
  A region that draws its order: operations that leave values which are not known ahead (a call, an append), in any order, then others that each wait for all before them. No statement is proved here.
-/
import Derived.Test.YtkcjiogackkecaaSinks
namespace Go.Proofs.Ytkcjiogackkecaa
open Go.RowKit

theorem frame_all' {a x : Act} {lo k hi : Nat} {f : Nat → Value} (h : FrameKept a lo hi x) (hhi : lo + k = hi + 1) (hlo : lo + k ≤ a.tmps.size) (hv : ∀ j, j < k → x.tmps[lo + j]?.getD undef = f j) : x = ⟨putAll lo k f a.tmps, a.defers⟩ := frame_all h hhi hlo hv

/-- J says what is known of what is done, of the values that the done ones left, and of the world. -/
theorem wp_region_phase {P : Program} {ops : Array Oper} {Q : Exit → Act → World → Prop} (lo k hi m : Nat) (J : (Nat → Bool) → (Nat → Value) → World → Prop) {id : Nat} {a : Act} {w : World}
    (hm : P.follows .mixedOrders = true) (he : early .any ops = true) (hsz : ops.size = k + m) (hm0 : 0 < m) (hsink : (List.range' k m).all (fun i => sinkL ops i) = true) (hhi : lo + k = hi + 1) (hlo : lo + k ≤ a.tmps.size)
    (h0 : J (fun _ => false) (fun _ => undef) w.drew)
    (hops : ∀ i, i < k → ∀ (L : Nat → Bool) (f : Nat → Value) (x : Act) (w' : World), FrameKept a lo hi x → L i = false → J L f w' → (∀ j ∈ waitsFor .any ops i, L j = true) → (∀ j, j < k → L j = true → x.tmps[lo + j]?.getD undef = f j) → wpOp P ops Q i (fun x' w'' => ∃ v, x' = x.put (some (lo + i)) v ∧ J (fun j => if i = j then true else L j) (fun j => if i = j then v else f j) w'') x w')
    (hrest : ∀ (L : Nat → Bool) (f : Nat → Value) (w' : World), (∀ j, j < k → L j = true) → J L f w' → wpOps P ops Q (List.range' k m) ⟨putAll lo k f a.tmps, a.defers⟩ w') : (Code.region id ops true).wp P Q a w := by
  have hsk : ∀ i, k ≤ i → i < k + m → sinkL ops i = true := fun i h1 h2 => List.all_eq_true.1 hsink i (by rw [List.mem_range'_1]; omega)
  have hcl : ∀ (L : Nat → Bool) (i : Nat), (∀ i, L i = true → ∀ j ∈ waitsFor .any ops i, L j = true) → (∀ j ∈ waitsFor .any ops i, L j = true) → ∀ n, (fun j => if i = j then true else L j) n = true → ∀ j ∈ waitsFor .any ops n, (fun j => if i = j then true else L j) j = true := by
    intro L i h1 h2 n hn j hj
    by_cases hij : i = j
    · simp [hij]
    · simp only [if_neg hij]
      by_cases hin : i = n
      · subst hin; exact h2 j hj
      · simp only [if_neg hin] at hn
        exact h1 n hn j hj
  refine wp_region_kept (fun L x w => (∀ i, L i = true → ∀ j ∈ waitsFor .any ops i, L j = true) ∧
    (((∀ i, k ≤ i → L i = false) ∧ FrameKept a lo hi x ∧ ∃ f, (∀ j, j < k → L j = true → x.tmps[lo + j]?.getD undef = f j) ∧ J L f w) ∨
      ∃ t, k < t ∧ t ≤ k + m ∧ (∀ i, i < t → L i = true) ∧ (∀ i, t ≤ i → L i = false) ∧ wpOps P ops Q (List.range' t (k + m - t)) x w)) hm he ?_ ?_ ?_
  · exact ⟨(fun _ h => by cases h), .inl ⟨fun _ _ => rfl, FrameKept.refl _ _ _, _, (fun _ _ h => by cases h), h0⟩⟩
  · intro L x w' i ⟨hc, hI⟩ hi hLi hw
    have hc' := hcl L i hc hw
    rcases hI with ⟨hno, hF, f, hL, hJ⟩ | ⟨t, ht1, ht2, hyes, hno, hO⟩
    · by_cases hik : i < k
      · refine wpOp_mono (fun x' w'' h => ?_) (hops i hik L f x w' hF hLi hJ hw hL)
        obtain ⟨v, rfl, hj'⟩ := h
        refine ⟨hc', .inl ⟨fun n hn => ?_, hF.put _ _ (by omega) (by omega), _, fun n hn hLn => ?_, hj'⟩⟩
        · simp only [if_neg (show ¬ i = n by omega)]
          exact hno n hn
        · by_cases e : i = n
          · subst e
            rw [put_here _ _ _ (by rw [hF.2.1]; omega), if_pos rfl]
          · simp only [if_neg e] at hLn ⊢
            rw [put_there _ _ _ _ (by omega)]
            exact hL n hn hLn
      · have hall := sink_done (L := fun j => if i = j then true else L j) (hsk i (by omega) (by omega)) hc' (by simp)
        have hik2 : i = k := by
          rcases Nat.lt_or_ge k i with h | h
          · have := hall k h
            simp only [if_neg (show ¬ i = k by omega), hno k (Nat.le_refl _)] at this
            cases this
          · omega
        subst hik2
        have hallL : ∀ j, j < i → L j = true := fun j hj => by
          have := hall j hj
          simpa [show i ≠ j by omega] using this
        have hx := frame_all hF hhi hlo (fun j hj => hL j hj (hallL j hj))
        have hr := hrest L f w' hallL hJ
        rw [← hx] at hr
        obtain ⟨m', rfl⟩ : ∃ m', m = m' + 1 := ⟨m - 1, by omega⟩
        rw [List.range'_succ, wpOps_cons] at hr
        refine wpOp_mono (fun x' w'' h => ⟨hc', .inr ⟨i + 1, by omega, by omega, fun j hj => ?_, fun j hj => ?_, ?_⟩⟩) hr
        · by_cases e : i = j
          · simp [e]
          · simp only [if_neg e]; exact hallL j (by omega)
        · simp only [if_neg (show ¬ i = j by omega)]; exact hno j (by omega)
        · rw [show i + (m' + 1) - (i + 1) = m' by omega]; exact h
    · have hit : i = t := by
        have h1 : t ≤ i := by
          rcases Nat.lt_or_ge i t with h | h
          · rw [hyes i h] at hLi; cases hLi
          · exact h
        rcases Nat.lt_or_ge t i with h | h
        · have := sink_done (L := fun j => if i = j then true else L j) (hsk i (by omega) (by omega)) hc' (by simp) t h
          simp only [if_neg (show ¬ i = t by omega), hno t (Nat.le_refl _)] at this
          cases this
        · omega
      subst hit
      obtain ⟨d, hd⟩ : ∃ d, k + m - i = d + 1 := ⟨k + m - i - 1, by omega⟩
      rw [hd, List.range'_succ, wpOps_cons] at hO
      refine wpOp_mono (fun x' w'' h => ⟨hc', .inr ⟨i + 1, by omega, by omega, fun j hj => ?_, fun j hj => ?_, ?_⟩⟩) hO
      · by_cases e : i = j
        · simp [e]
        · simp only [if_neg e]; exact hyes j (by omega)
      · simp only [if_neg (show ¬ i = j by omega)]; exact hno j (by omega)
      · rw [show k + m - (i + 1) = d by omega]; exact h
  · intro L x w' ⟨_, hI⟩ hall
    rcases hI with ⟨hno, _⟩ | ⟨t, ht1, ht2, _, hno, hO⟩
    · have := hall k (by omega)
      rw [hno k (Nat.le_refl _)] at this
      cases this
    · have e : t = k + m := by
        rcases Nat.lt_or_ge t (k + m) with h | h
        · have := hall t (by omega)
          rw [hno t (Nat.le_refl _)] at this
          cases this
        · omega
      subst e
      rw [Nat.sub_self] at hO
      exact hO

/-- A row that an operation makes: type, size, how many, what. -/
structure Made where
  e : TypeId
  size : Nat
  n : Nat
  xs : List Value

/-- What is known on the way: known values, and rows that nothing else holds, apart from each other. -/
def FreshJ (W : World) (k : Nat) (V : Nat → Value) (R : Nat → Option Made) (L : Nat → Bool) (f : Nat → Value) (w' : World) : Prop :=
  Below W.heap.size W w' ∧ (∀ i, i < k → L i = true → R i = none → f i = V i) ∧
    (∀ i r, i < k → L i = true → R i = some r → w'.ownsRow W.heap.size r.e r.size (f i) r.n r.xs) ∧
    (∀ i j r s, i < k → j < k → i ≠ j → L i = true → L j = true → R i = some r → R j = some s → ∀ b, (f i).ownBlock = some b → (f j).ownBlock ≠ some b)

theorem row_base {w : World} {base base' : Nat} {e : TypeId} {size : Nat} {v : Value} {n : Nat} {xs : List Value} (h : w.ownsRow base e size v n xs) (hb : base' ≤ base) : w.ownsRow base' e size v n xs := by
  refine ⟨h.1, ?_⟩
  rcases h.2 with hn | ⟨g, cap, cur, e, hb1, rest⟩
  · exact .inl hn
  · exact .inr ⟨g, cap, cur, e, Nat.le_trans hb hb1, rest⟩
theorem row_below {w w' : World} {base : Nat} {e : TypeId} {size : Nat} {v : Value} {n : Nat} {xs : List Value} (h : w.ownsRow base e size v n xs) (hb : Below w.heap.size w w') : w'.ownsRow base e size v n xs := by
  refine ⟨h.1, ?_⟩
  rcases h.2 with hn | ⟨g, cap, cur, rfl, hb1, hg, rest⟩
  · exact .inl hn
  · exact .inr ⟨g, cap, cur, rfl, hb1, (hb.block g (h.lt g rfl).2).trans hg, rest⟩

/-- Operations that read, and operations that make a row each; then sinks. -/
theorem wp_region_fresh {P : Program} {ops : Array Oper} {Q : Exit → Act → World → Prop} (lo k hi m : Nat) (V : Nat → Value) (R : Nat → Option Made) {id : Nat} {a : Act} {W : World}
    (hm : P.follows .mixedOrders = true) (he : early .any ops = true) (hsz : ops.size = k + m) (hm0 : 0 < m) (hsink : (List.range' k m).all (fun i => sinkL ops i) = true) (hhi : lo + k = hi + 1) (hlo : lo + k ≤ a.tmps.size)
    (hval : ∀ i, i < k → R i = none → ∀ (x : Act) (w' : World), Below W.heap.size W w' → FrameKept a lo hi x → (∀ j ∈ waitsFor .any ops i, j < k → R j = none → x.tmps[lo + j]?.getD undef = V j) → wpOp P ops Q i (fun x' w'' => x' = x.put (some (lo + i)) (V i) ∧ w' = w'') x w')
    (hrow : ∀ i r, i < k → R i = some r → ∀ (x : Act) (w' : World), Below W.heap.size W w' → FrameKept a lo hi x → (∀ j ∈ waitsFor .any ops i, j < k → R j = none → x.tmps[lo + j]?.getD undef = V j) → wpOp P ops Q i (fun x' w'' => ∃ v, x' = x.put (some (lo + i)) v ∧ w''.ownsRow w'.heap.size r.e r.size v r.n r.xs ∧ Below w'.heap.size w' w'') x w')
    (hrest : ∀ (L : Nat → Bool) (f : Nat → Value) (w' : World), (∀ j, j < k → L j = true) → FreshJ W k V R L f w' → wpOps P ops Q (List.range' k m) ⟨putAll lo k f a.tmps, a.defers⟩ w') : (Code.region id ops true).wp P Q a W := by
  refine wp_region_phase lo k hi m (FreshJ W k V R) hm he hsz hm0 hsink hhi hlo ?_ ?_ hrest
  · exact ⟨⟨rfl, rfl, rfl, Nat.le_refl _, fun _ _ => rfl⟩, (fun _ _ h => by cases h), (fun _ _ _ h => by cases h), (fun _ _ _ _ _ _ _ h => by cases h)⟩
  · intro i hik L f x w' hF hLi ⟨hB, hV, hR, hA⟩ hw hx
    have hvals : ∀ j ∈ waitsFor .any ops i, j < k → R j = none → x.tmps[lo + j]?.getD undef = V j := fun j hj hjk hrj => (hx j hjk (hw j hj)).trans (hV j hjk (hw j hj) hrj)
    cases hri : R i with
    | none =>
      refine wpOp_mono (fun x' w'' h => ?_) (hval i hik hri x w' hB hF hvals)
      obtain ⟨rfl, rfl⟩ := h
      refine ⟨V i, rfl, hB, fun n hn hL hr => ?_, fun n r hn hL hr => ?_, fun n1 n2 r s h1 h2 hne hL1 hL2 hr1 hr2 => ?_⟩
      · by_cases e : i = n
        · subst e; show (if i = i then V i else f i) = V i; rw [if_pos rfl]
        · simp only [if_neg e] at hL ⊢; exact hV n hn hL hr
      · by_cases e : i = n
        · subst e; rw [hri] at hr; cases hr
        · simp only [if_neg e] at hL ⊢; exact hR n r hn hL hr
      · by_cases e1 : i = n1
        · subst e1; rw [hri] at hr1; cases hr1
        · by_cases e2 : i = n2
          · subst e2; rw [hri] at hr2; cases hr2
          · simp only [if_neg e1, if_neg e2] at hL1 hL2 ⊢; exact hA n1 n2 r s h1 h2 hne hL1 hL2 hr1 hr2
    | some q =>
      refine wpOp_mono (fun x' w'' h => ?_) (hrow i q hik hri x w' hB hF hvals)
      obtain ⟨v, rfl, hown, hb⟩ := h
      refine ⟨v, rfl, hB.trans (Below.mono hb hB.size), fun n hn hL hr => ?_, fun n r hn hL hr => ?_, fun n1 n2 r s h1 h2 hne hL1 hL2 hr1 hr2 b => ?_⟩
      · by_cases e : i = n
        · subst e; rw [hri] at hr; cases hr
        · simp only [if_neg e] at hL ⊢; exact hV n hn hL hr
      · by_cases e : i = n
        · subst e
          rw [hri] at hr
          cases hr
          show World.ownsRow w'' W.heap.size q.e q.size (if i = i then v else f i) q.n q.xs
          rw [if_pos rfl]
          exact row_base hown hB.size
        · simp only [if_neg e] at hL ⊢; exact row_below (hR n r hn hL hr) hb
      · by_cases e1 : i = n1
        · have e2 : ¬ i = n2 := fun e => hne (e1.symm.trans e)
          simp only [if_pos e1, if_neg e2] at hL2 ⊢
          intro hb1 hb2
          have := (hown.lt b hb1).1
          have := ((hR n2 s h2 hL2 hr2).lt b hb2).2
          omega
        · by_cases e2 : i = n2
          · simp only [if_neg e1, if_pos e2] at hL1 ⊢
            intro hb1 hb2
            have := (hown.lt b hb2).1
            have := ((hR n1 r h1 hL1 hr1).lt b hb1).2
            omega
          · simp only [if_neg e1, if_neg e2] at hL1 hL2 ⊢; exact hA n1 n2 r s h1 h2 hne hL1 hL2 hr1 hr2 b

/-- A row copied by 'append(nil, row...)'. -/
theorem append_copy {P : Program} {w : World} {B : Nat} (t ty e : TypeId) (i : TypeInfo) (z : Value) (size bytes : Nat) (ht : P.underlying t = some (.slice e)) (hi : P.info? e = some i) (hz : i.zero = some z)
    (hsize : i.size = size) (hby : i.bytes = bytes) (hzs : z.cells.size = size) (hsz : 0 < size) {v : Value} {n : Nat} {xs : List Value} (hown : w.ownsRow B e size v n xs) (h1 : ∀ u ∈ xs, u.oneCell' = true) (h63 : n ≤ maxLen) (hbytes : n * bytes ≤ 140737488355328) :
    ∃ v' w', (Builtin.append_ #[t, t] ty #[.slice none 0 0, v]).run P w = .ok v' w' ∧ w'.ownsRow w.heap.size e size v' n xs ∧ Below w.heap.size w w' := by
  rcases hown.2 with ⟨rfl, rfl⟩ | ⟨g, cap, cur, rfl, hrest⟩
  · have hx : xs = [] := List.eq_nil_of_length_eq_zero (by rw [hown.1]; omega)
    subst hx
    exact ⟨_, w, run_append_owned_none (P := P) (w := w) w.heap.size t ty e i size ht hi (.slice none 0 0) 0 [] (World.ownsRow_nil _ _ _ _), World.ownsRow_nil _ _ _ _, Below.refl _ _⟩
  · obtain ⟨v', w', hr, h2, h3, _, _⟩ := run_append_own_at (P := P) w w.heap.size t ty e i z size bytes ht hi hz hsize hby hzs hsz (.slice none 0 0) 0 [] (World.ownsRow_nil _ _ _ _) ⟨g, 0, none⟩ n cap xs hown.1 (fun j u hu => hown.cells (g := g) rfl j u hu) h1 (by omega) (by simpa using hbytes) (Nat.le_refl _)
    refine ⟨v', w', hr, by simpa using h2, (Below.refl _ _).grown h3 (Nat.le_refl _) (by simp [Value.ownBlock])⟩
end Go.Proofs.Ytkcjiogackkecaa
