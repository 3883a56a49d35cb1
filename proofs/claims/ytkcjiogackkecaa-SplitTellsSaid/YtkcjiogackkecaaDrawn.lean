/-
  A region that draws its order, walked once: a property of what is done so far, kept by each operation that may come up. No statement is proved here.
-/
import Derived.Orders
namespace Go.Proofs.Ytkcjiogackkecaa
open Go

section
variable {P : Program} {ops : Array Oper} {Q : Exit → Act → World → Prop} {md : Region.Mode}

/-- What operation i waits for. -/
def waitsFor (md : Region.Mode) (ops : Array Oper) (i : Nat) : List Nat :=
  match ops[i]? with
  | none => []
  | some o => (o.after.toList.filter fun e => Region.binds md e).map (·.on)
/-- Each waits for earlier ones alone. -/
def early (md : Region.Mode) (ops : Array Oper) : Bool := (List.range ops.size).all fun i => (waitsFor md ops i).all fun j => decide (j < i)

theorem waits_done {i j : Nat} {listed : Array Bool} (h : i ∈ Region.ready md ops listed) (hd : j ∈ waitsFor md ops i) : listed.getD j false = true := by
  obtain ⟨_, o, ho, hall⟩ := mem_ready.1 h
  simp only [waitsFor, ho] at hd
  obtain ⟨e, he, rfl⟩ := List.mem_map.1 hd
  obtain ⟨h1, h2⟩ := List.mem_filter.1 he
  exact hall e (Array.mem_toList_iff.1 h1) h2

theorem all_done (he : early md ops = true) {listed : Array Bool} (hs : listed.size = ops.size) (hr : Region.ready md ops listed = []) : ∀ i, i < ops.size → listed.getD i false = true := by
  intro i
  induction i using Nat.strongRecOn with
  | ind i ih =>
    intro hi
    cases hb : listed.getD i false with
    | true => rfl
    | false =>
      have hmem : i ∈ Region.ready md ops listed := by
        refine mem_ready.2 ⟨?_, ops[i], Array.getElem?_eq_getElem hi, fun e hE hB => ?_⟩
        · have hl : i < listed.size := by omega
          simp [hl] at hb ⊢
          exact hb
        · have hw : e.on ∈ waitsFor md ops i := by
            simp only [waitsFor, Array.getElem?_eq_getElem hi]
            exact List.mem_map.2 ⟨e, List.mem_filter.2 ⟨Array.mem_toList_iff.2 hE, hB⟩, rfl⟩
          have := List.all_eq_true.1 (List.all_eq_true.1 he i (List.mem_range.2 hi)) e.on hw
          have hlt : e.on < i := by simpa using this
          exact ih e.on hlt (by omega)
      rw [hr] at hmem
      cases hmem

/-- A property of what is done, of the frame and of the world. -/
theorem wpAny_kept (Inv : (Nat → Bool) → Act → World → Prop) (he : early md ops = true)
    (hstep : ∀ L a w i, Inv L a w → i < ops.size → L i = false → (∀ j ∈ waitsFor md ops i, L j = true) → wpOp P ops Q i (Inv fun j => if i = j then true else L j) a w)
    (hdone : ∀ L a w, Inv L a w → (∀ i, i < ops.size → L i = true) → Q .normal a w) :
    ∀ (fuel : Nat) (listed : Array Bool) (a : Act) (w : World), listed.size = ops.size → listed.toList.countP (fun b => !b) ≤ fuel → Inv (fun j => listed.getD j false) a w → wpAny P md ops Q fuel listed a w := by
  intro fuel
  induction fuel with
  | zero =>
    intro listed a w hs hc hI
    have hr : Region.ready md ops listed = [] := by
      cases hr : Region.ready md ops listed with
      | nil => rfl
      | cons i rs =>
        have hm : i ∈ Region.ready md ops listed := by rw [hr]; exact List.mem_cons_self
        obtain ⟨h0, o, ho, _⟩ := mem_ready.1 hm
        have hi : i < ops.size := (Array.getElem?_eq_some_iff.1 ho).1
        have hl : i < listed.size := by omega
        simp [hl] at h0
        have hpos : 0 < listed.toList.countP (fun b => !b) := List.countP_pos_iff.2 ⟨listed[i], by simp, by simp [h0]⟩
        omega
    exact ⟨hr, hdone _ _ _ hI (all_done he hs hr)⟩
  | succ fuel ih =>
    intro listed a w hs hc hI
    refine ⟨fun hr => hdone _ _ _ hI (all_done he hs hr), fun i hm => ?_⟩
    obtain ⟨h0, o, ho, _⟩ := mem_ready.1 hm
    have hi : i < ops.size := (Array.getElem?_eq_some_iff.1 ho).1
    have hl : i < listed.size := by omega
    have hf : listed[i] = false := by simpa [hl] using h0
    refine wpOp_mono (fun a' w' h' => ih (listed.setIfInBounds i true) a' w' (by simp [hs]) ?_ ?_) (hstep _ a w i hI hi (by simp [hl, hf]) (fun j hj => waits_done hm hj))
    · have hset := List.countP_set (p := fun b : Bool => !b) (l := listed.toList) (i := i) (a := true) (by simpa using hl)
      have hpos : 0 < listed.toList.countP (fun b => !b) := List.countP_pos_iff.2 ⟨listed[i], by simp, by simp [hf]⟩
      simp [hf] at hset
      simp only [Array.toList_setIfInBounds]
      simp only [← Array.countP_toList] at hset ⊢
      omega
    · refine Eq.mp ?_ h'
      congr 1
      funext j
      by_cases hij : i = j
      · subst hij; simp [hl]
      · rw [if_neg hij, getD_set_ne false hij]

/-- THE BEGINNING. -/
theorem wp_region_kept (Inv : (Nat → Bool) → Act → World → Prop) {id : Nat} {a : Act} {w : World} (hm : P.follows .mixedOrders = true) (he : early .any ops = true)
    (h0 : Inv (fun _ => false) a { w with drawn := w.drawn + 1 })
    (hstep : ∀ L a w i, Inv L a w → i < ops.size → L i = false → (∀ j ∈ waitsFor .any ops i, L j = true) → wpOp P ops Q i (Inv fun j => if i = j then true else L j) a w)
    (hdone : ∀ L a w, Inv L a w → (∀ i, i < ops.size → L i = true) → Q .normal a w) : (Code.region id ops true).wp P Q a w := by
  refine wp_region_any hm (wpAny_kept Inv he hstep hdone ops.size _ a _ (by simp) ?_ ?_)
  · exact Nat.le_trans List.countP_le_length (by simp)
  · refine Eq.mp ?_ h0
    congr 1
    funext j
    by_cases hj : j < ops.size
    · simp [hj]
    · simp [hj]
/-- .. with the frame ahead of it in the property. -/
theorem wp_region_kept_at (Inv : Act → (Nat → Bool) → Act → World → Prop) {id : Nat} {a : Act} {w : World} (hm : P.follows .mixedOrders = true) (he : early .any ops = true)
    (h0 : Inv a (fun _ => false) a { w with drawn := w.drawn + 1 })
    (hstep : ∀ L x w i, Inv a L x w → i < ops.size → L i = false → (∀ j ∈ waitsFor .any ops i, L j = true) → wpOp P ops Q i (Inv a fun j => if i = j then true else L j) x w)
    (hdone : ∀ L x w, Inv a L x w → (∀ i, i < ops.size → L i = true) → Q .normal x w) : (Code.region id ops true).wp P Q a w := wp_region_kept (Inv a) hm he h0 hstep hdone
end

section
variable {P : Program} {ops : Array Oper} {Q : Exit → Act → World → Prop} {K : Act → World → Prop} {x : Act} {w w' : World} {o : Oper} {i : Nat}
theorem wpOp_value {v : Value} (hi : ops[i]? = some o) (hg : o.guard = none) (hr : (execOp x.eval o).run P w = .ok (.value v) w') (hK : K (x.put o.dst v) w') : wpOp P ops Q i K x w := by
  simp only [wpOp, hi, Region.wanted, hg, Oper.wp, hr, Oper.upon]
  exact .inl hK
theorem wpOp_skip (hi : ops[i]? = some o) (hg : o.guard = none) (hr : (execOp x.eval o).run P w = .ok .skip w') (hK : K (x.put o.dst undef) w') : wpOp P ops Q i K x w := by
  simp only [wpOp, hi, Region.wanted, hg, Oper.wp, hr, Oper.upon]
  exact .inl hK
theorem wpOp_call {f : FuncId} {args : Array Value} (hi : ops[i]? = some o) (hg : o.guard = none) (hr : (execOp x.eval o).run P w = .ok (.enter f args) w) (hc : Calls P f args w fun e w' => ∃ v, e = .returned v ∧ K (x.put o.dst v) w') : wpOp P ops Q i K x w := by
  simp only [wpOp, hi, Region.wanted, hg, Oper.wp, hr, Oper.upon]
  exact .inl (hc.mono fun e w'' ⟨v, he, hK⟩ => by subst he; exact hK)
end
end Go.Proofs.Ytkcjiogackkecaa
