/-
  A region that draws its order: what each operation leaves is a property of its value and of memory, told ahead; guards may be on or off. No statement is proved here.
-/
import Derived.Test.YtkcjiogackkecaaKnown
namespace Go.Proofs.Ytkcjiogackkecaa
open Go.RowKit

/-- The slots of a region's operations, a list. -/
def slL (l : List (Option Nat)) (i : Nat) : Option Nat := (l[i]?).getD none
theorem slL_far {l : List (Option Nat)} {s : Nat} (h : (l.all fun x => x != some s) = true) {k : Nat} : ∀ i, i < k → slL l i ≠ some s := by
  intro i _ e
  unfold slL at e
  cases hx : l[i]? with
  | none => rw [hx] at e; cases e
  | some y =>
    rw [hx] at e
    have := List.all_eq_true.1 h y (List.mem_of_getElem? hx)
    rw [show y = some s from e] at this
    simp at this

section
variable {P : Program} {ops : Array Oper} {Q : Exit → Act → World → Prop}
/-- What an operation is told of those that it waits for. -/
def Told (sl : Nat → Option Nat) (F : (Nat → Bool) → Nat → Value → World → Prop) (L : Nat → Bool) (f : Nat → Value) (x : Act) (w : World) (j : Nat) : Prop :=
  L j = true ∧ F L j (f j) w ∧ ∀ s, sl j = some s → x.tmps[s]?.getD undef = f j

theorem wp_region_loose (k : Nat) (l : List (Option Nat)) (J : (Nat → Bool) → World → Prop) (G : Nat → World → World → Prop) (F : (Nat → Bool) → Nat → Value → World → Prop) {id : Nat} {a : Act} {w : World}
    (hm : P.follows .mixedOrders = true) (he : early .any ops = true) (hsz : ops.size = k)
    (hd : ((List.range k).all fun i => (List.range k).all fun j => i == j || slL l i == none || slL l i != slL l j) = true) (hs : ((List.range k).all fun i => match slL l i with | some s => decide (s < a.tmps.size) | none => true) = true)
    (hF : ∀ (L : Nat → Bool) (o i : Nat) (v : Value) (w w' : World), i ≠ o → L i = true → L o = false → (∀ n, L n = true → ∀ j ∈ waitsFor .any ops n, L j = true) → F L i v w → J L w → G o w w' → F (fun j => if o = j then true else L j) i v w')
    (hJ : ∀ (L : Nat → Bool) (o : Nat) (w w' : World), L o = false → J L w → G o w w' → J (fun j => if o = j then true else L j) w') (h0 : J (fun _ => false) w.drew)
    (hops : ∀ o, o < k → ∀ (L : Nat → Bool) (f : Nat → Value) (x : Act) (w' : World), (∀ n, L n = true → ∀ j ∈ waitsFor .any ops n, L j = true) → (∀ s, (∀ i, i < k → slL l i ≠ some s) → x.tmps[s]? = a.tmps[s]?) → L o = false → J L w' → (∀ j ∈ waitsFor .any ops o, Told (slL l) F L f x w' j) → wpOp P ops Q o (fun x' w'' => ∃ v, x' = x.put (slL l o) v ∧ G o w' w'' ∧ F (fun j => if o = j then true else L j) o v w'') x w')
    (hrest : ∀ (L : Nat → Bool) (f : Nat → Value) (w' : World), (∀ j, j < k → L j = true) → J L w' → (∀ i, i < k → F L i (f i) w') → Q .normal ⟨putSlots (slL l) f k a.tmps, a.defers⟩ w') : (Code.region id ops true).wp P Q a w := by
  refine wp_region_free k (slL l) (fun L f w' => J L w' ∧ ∀ i, i < k → L i = true → F L i (f i) w') hm he hsz hd hs ⟨h0, (fun _ _ h => by cases h)⟩ ?_ ?_
  · intro o ho L f x w' hc hfr hLo ⟨hJw, hFs⟩ hw hv
    refine wpOp_mono (fun x' w'' h => ?_) (hops o ho L f x w' hc hfr hLo hJw (fun j hj => ?_))
    · obtain ⟨v, rfl, hg, hf⟩ := h
      refine ⟨v, rfl, hJ L o _ _ hLo hJw hg, fun i hi hL => ?_⟩
      by_cases e : o = i
      · subst e
        show F _ o (if o = o then v else f o) w''
        rw [if_pos rfl]
        exact hf
      · have hL' : L i = true := by simpa only [if_neg e] using hL
        show F _ i (if o = i then v else f i) w''
        rw [if_neg e]
        exact hF L o i _ _ _ (fun e' => e e'.symm) hL' hLo hc (hFs i hi hL') hJw hg
    · have hlt : j < k := by
        have := List.all_eq_true.1 (List.all_eq_true.1 he o (List.mem_range.2 (by rw [hsz]; exact ho))) j hj
        have : j < o := by simpa using this
        omega
      exact ⟨hw j hj, hFs j hlt (hw j hj), fun s hs => hv j s hlt (hw j hj) hs⟩
  · intro L f w' hall ⟨hJw, hFs⟩
    exact hrest L f w' hall hJw (fun i hi => hFs i hi (hall i hi))

theorem Told.val {sl : Nat → Option Nat} {F : (Nat → Bool) → Nat → Value → World → Prop} {L : Nat → Bool} {f : Nat → Value} {x : Act} {w : World} {j s : Nat} {v : Value} (h : Told sl F L f x w j) (hs : sl j = some s) (hv : F L j (f j) w → f j = v) : x.tmps[s]?.getD undef = v := (h.2.2 s hs).trans (hv h.2.1)

/-- What operation i leaves: its value, where that is told ahead, and what M says of memory. -/
def LooseF (V : List (Option Value)) (M : (Nat → Bool) → Nat → Value → World → Prop) (L : Nat → Bool) (i : Nat) (v : Value) (w : World) : Prop := (∀ u, V[i]? = some (some u) → v = u) ∧ M L i v w
theorem LooseF.known {V : List (Option Value)} {M : (Nat → Bool) → Nat → Value → World → Prop} {L : Nat → Bool} {i : Nat} {v : Value} {w : World} (h : V[i]? = some (some v)) (hm : M L i v w) : LooseF V M L i v w := ⟨fun u hu => by rw [h] at hu; exact Option.some.inj (Option.some.inj hu), hm⟩
theorem LooseF.loose {V : List (Option Value)} {M : (Nat → Bool) → Nat → Value → World → Prop} {L : Nat → Bool} {i : Nat} {v : Value} {w : World} (h : V[i]? = some none) (hm : M L i v w) : LooseF V M L i v w := ⟨(fun u hu => by rw [h] at hu; cases hu), hm⟩
theorem LooseF.is {V : List (Option Value)} {M : (Nat → Bool) → Nat → Value → World → Prop} {L : Nat → Bool} {i : Nat} {v u : Value} {w : World} (h : LooseF V M L i v w) (hu : V[i]? = some (some u)) : v = u := h.1 u hu
theorem Told.is {sl : Nat → Option Nat} {V : List (Option Value)} {M : (Nat → Bool) → Nat → Value → World → Prop} {L : Nat → Bool} {f : Nat → Value} {x : Act} {w : World} {j s : Nat} {v : Value} (h : Told sl (LooseF V M) L f x w j) (hs : sl j = some s) (hv : V[j]? = some (some v)) : x.tmps[s]?.getD undef = v := (h.2.2 s hs).trans (h.2.1.is hv)

theorem wp_region_loosely (k : Nat) (l : List (Option Nat)) (V : List (Option Value)) (J : (Nat → Bool) → World → Prop) (G : Nat → World → World → Prop) (M : (Nat → Bool) → Nat → Value → World → Prop) {id : Nat} {a : Act} {w : World}
    (hm : P.follows .mixedOrders = true) (he : early .any ops = true) (hsz : ops.size = k)
    (hd : ((List.range k).all fun i => (List.range k).all fun j => i == j || slL l i == none || slL l i != slL l j) = true) (hs : ((List.range k).all fun i => match slL l i with | some s => decide (s < a.tmps.size) | none => true) = true)
    (hM : ∀ (L : Nat → Bool) (o i : Nat) (v : Value) (w w' : World), i ≠ o → L i = true → L o = false → (∀ n, L n = true → ∀ j ∈ waitsFor .any ops n, L j = true) → M L i v w → J L w → G o w w' → M (fun j => if o = j then true else L j) i v w')
    (hJ : ∀ (L : Nat → Bool) (o : Nat) (w w' : World), L o = false → J L w → G o w w' → J (fun j => if o = j then true else L j) w') (h0 : J (fun _ => false) w.drew)
    (hops : ∀ o, o < k → ∀ (L : Nat → Bool) (f : Nat → Value) (x : Act) (w' : World), (∀ n, L n = true → ∀ j ∈ waitsFor .any ops n, L j = true) → (∀ s, (∀ i, i < k → slL l i ≠ some s) → x.tmps[s]? = a.tmps[s]?) → L o = false → J L w' → (∀ j ∈ waitsFor .any ops o, Told (slL l) (LooseF V M) L f x w' j) → wpOp P ops Q o (fun x' w'' => ∃ v, x' = x.put (slL l o) v ∧ G o w' w'' ∧ LooseF V M (fun j => if o = j then true else L j) o v w'') x w')
    (hrest : ∀ (L : Nat → Bool) (f : Nat → Value) (w' : World), (∀ j, j < k → L j = true) → J L w' → (∀ i, i < k → LooseF V M L i (f i) w') → Q .normal ⟨putSlots (slL l) f k a.tmps, a.defers⟩ w') : (Code.region id ops true).wp P Q a w :=
  wp_region_loose k l J G (LooseF V M) hm he hsz hd hs (fun L o i v w w' h1 h2 h3 h4 h5 h6 h7 => ⟨h5.1, hM L o i v w w' h1 h2 h3 h4 h5.2 h6 h7⟩) hJ h0 hops hrest

variable {K : Act → World → Prop} {x : Act} {w w' : World} {o : Oper} {i : Nat}
theorem below_dn {B : Nat} (w : World) (n : Nat) : Below B w (w.drewN n) := ⟨rfl, rfl, rfl, Nat.le_refl _, fun _ _ => rfl⟩
theorem wanted_none (hg : o.guard = none) : Region.wanted o (yielded ops x.tmps) = true := by simp [Region.wanted, hg]
theorem guard_is {j s : Nat} {b : Bool} (hg : o.guard = some (j, b)) (hd : (ops[j]?).bind (·.dst) = some s) {c : Bool} (ht : x.tmps[s]?.getD undef = .bool c) : Region.wanted o (yielded ops x.tmps) = (c == b) := by
  have h1 : x.tmps[s]? = some (.bool c) := by
    cases h : x.tmps[s]? with
    | none => rw [h] at ht; cases ht
    | some v => rw [h] at ht; exact congrArg some ht
  unfold Region.wanted yielded
  cases b <;> cases c <;> simp [hg, hd, h1]
theorem wpOp_on {v : Value} (hi : ops[i]? = some o) (hg : Region.wanted o (yielded ops x.tmps) = true) (hr : (execOp x.eval o).run P w = .ok (.value v) w') (hK : K (x.put o.dst v) w') : wpOp P ops Q i K x w := by
  unfold wpOp
  simp only [hi]
  rw [if_pos hg]
  refine .inl ?_
  unfold Oper.wp
  rw [hr]
  exact hK
theorem wpOp_enter {f : FuncId} {args : Array Value} (hi : ops[i]? = some o) (hg : Region.wanted o (yielded ops x.tmps) = true) (hr : (execOp x.eval o).run P w = .ok (.enter f args) w) (hc : Calls P f args w fun e w' => ∃ v, e = .returned v ∧ K (x.put o.dst v) w') : wpOp P ops Q i K x w := by
  unfold wpOp
  simp only [hi]
  rw [if_pos hg]
  refine .inl ?_
  unfold Oper.wp
  rw [hr]
  exact hc.mono fun e w'' ⟨v, he, hK⟩ => by subst he; exact hK
theorem wpOp_off (hi : ops[i]? = some o) (hg : Region.wanted o (yielded ops x.tmps) = false) (hK : K (x.put o.dst undef) w) : wpOp P ops Q i K x w := by
  unfold wpOp
  simp only [hi]
  rw [if_neg (by rw [hg]; decide)]
  exact hK
end
end Go.Proofs.Ytkcjiogackkecaa
