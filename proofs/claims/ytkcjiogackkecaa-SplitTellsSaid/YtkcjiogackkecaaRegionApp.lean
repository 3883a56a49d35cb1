/-
  A region that draws its order and ends in an append: single operations whose values are known, a new row, the append, an assignment. No statement is proved here.
-/
import Derived.Test.YtkcjiogackkecaaKept
import Derived.Test.YtkcjiogackkecaaBytes
namespace Go.Proofs.Ytkcjiogackkecaa
open Go.RowKit

/-- Each operation below n is waited for by a later one, up to n. -/
def sinkL (ops : Array Oper) (n : Nat) : Bool := (List.range n).all fun i => (List.range (n + 1)).any fun j => decide (i < j) && (waitsFor .any ops j).contains i
theorem sink_done {ops : Array Oper} {n : Nat} {L : Nat → Bool} (hs : sinkL ops n = true) (hc : ∀ i, L i = true → ∀ j ∈ waitsFor .any ops i, L j = true) (hn : L n = true) : ∀ i, i < n → L i = true := by
  have key : ∀ d i, i < n → n - i ≤ d → L i = true := by
    intro d
    induction d with
    | zero => intro i h1 h2; omega
    | succ d ih =>
      intro i h1 h2
      have h := List.all_eq_true.1 hs i (List.mem_range.2 h1)
      obtain ⟨j, hj, hw⟩ := List.any_eq_true.1 h
      simp only [Bool.and_eq_true, decide_eq_true_eq, List.contains_iff_mem] at hw
      have hj' : j < n + 1 := List.mem_range.1 hj
      refine hc j ?_ i hw.2
      by_cases e : j = n
      · rw [e]; exact hn
      · exact ih j (by omega) (by omega)
  exact fun i h => key (n - i) i h (Nat.le_refl _)

theorem own_kept {w w' : World} {base size n : Nat} {e : TypeId} {v : Value} {xs : List Value} (h : w.ownsRow base e size v n xs) (hg : w.grownBy w' none) : w'.ownsRow base e size v n xs :=
  h.kept hg (by cases hv : v.ownBlock <;> simp)
section
variable {P : Program} {ops : Array Oper} {Q : Exit → Act → World → Prop}
/-- What holds along the way. -/
def appInv (ops : Array Oper) (lo k d N : Nat) (V : Nat → Value) (base : Nat) (e : TypeId) (b : Value) (n : Nat) (xs news : List Value) (w0 : World) (F : Act) (L : Nat → Bool) (x : Act) (w : World) : Prop :=
  (∀ i, L i = true → ∀ j ∈ waitsFor .any ops i, L j = true) ∧
  (x.defers = F.defers ∧ x.tmps.size = N ∧ ∀ s, s ≠ d → (s < lo ∨ lo + k + 1 < s) → x.tmps[s]? = F.tmps[s]?) ∧
  (L (k + 2) = false → x.tmps[d]? = F.tmps[d]?) ∧
  (∀ i, i < k → L i = true → x.tmps[lo + i]?.getD undef = V i) ∧
  (L (k + 1) = false → w0.grownBy w none ∧ w.ownsRow base e 1 b n xs ∧ (L k = true → ∃ g, x.tmps[lo + k]?.getD undef = .slice (some ⟨g, 0, none⟩) news.length news.length ∧ w0.heap.size ≤ g ∧ Blk w g e news.toArray)) ∧
  (L (k + 1) = true → w0.grownBy w b.ownBlock ∧ ∃ g cap, x.tmps[lo + k + 1]?.getD undef = .slice (some ⟨g, 0, none⟩) (n + news.length) cap ∧ w.ownsRow base e 1 (.slice (some ⟨g, 0, none⟩) (n + news.length) cap) (n + news.length) (xs ++ news) ∧ (b.ownBlock = some g ∨ w0.heap.size ≤ g) ∧ (L (k + 2) = true → x.tmps[d]?.getD undef = .slice (some ⟨g, 0, none⟩) (n + news.length) cap))

theorem tmps_put (x : Act) (t s : Nat) (v : Value) (h : t ≠ s) : (x.put (some t) v).tmps[s]? = x.tmps[s]? := by
  simp only [Act.put]
  rw [Array.getElem?_setIfInBounds_ne h]
theorem wp_region_append (lo k d N r : Nat) (V : Nat → Value) (base : Nat) (t e : TypeId) (i0 : TypeInfo) (z : Value) (b : Value) (n : Nat) (xs news : List Value) {id : Nat} {a : Act} {w : World}
    (hm : P.follows .mixedOrders = true) (he : early .any ops = true) (hk : ops.size = k + 3) (hsink : sinkL ops (k + 1) = true) (hlast : (waitsFor .any ops (k + 2)).contains (k + 1) = true)
    (hN : a.tmps.size = N) (hlo : lo + k + 1 < N) (hd : d < lo)
    (ht : P.underlying t = some (.slice e)) (hi : P.info? e = some i0) (hz : i0.zero = some z) (hsize : i0.size = 1) (hby : i0.bytes ≤ 16) (hzs : z.cells.size = 1)
    (hown : w.ownsRow base e 1 b n xs) (hbase : base ≤ w.heap.size) (hnews : 0 < news.length) (h1 : ∀ u ∈ news, u.oneCell' = true) (hsum : n + news.length ≤ 1000000)
    (hops : ∀ i, i < k → ∀ (x : Act) (w' : World), (x.defers = a.defers ∧ x.tmps.size = N ∧ ∀ s, (s < lo ∨ lo + k + 1 < s) → x.tmps[s]? = a.tmps[s]?) → w.drew.grownBy w' none → (∀ j ∈ waitsFor .any ops i, j < k → x.tmps[lo + j]?.getD undef = V j) →
      wpOp P ops Q i (fun x' w'' => x' = x.put (some (lo + i)) (V i) ∧ w'.grownBy w'' none) x w')
    (hbuild : ∀ (x : Act) (w' : World), (∀ j ∈ waitsFor .any ops k, j < k → x.tmps[lo + j]?.getD undef = V j) → ∃ o, ops[k]? = some o ∧ o.guard = none ∧ o.dst = some (lo + k) ∧ (execOp x.eval o).run P w' = .ok (.value (.slice (some ⟨w'.heap.size, 0, none⟩) news.length news.length)) (w'.alloc (.cells news.toArray e)))
    (oa ol : Oper) (happ : ops[k + 1]? = some oa) (hga : oa.guard = none) (hda : oa.dst = some (lo + k + 1)) (hoa : oa.op = .call { callee := .builtin .append, args := #[.tmp (lo + r), .tmp (lo + k)], argTypes := #[t, t] }) (hr : r < k) (hVr : V r = b)
    (hol : ops[k + 2]? = some ol) (hgl : ol.guard = none) (hdl : ol.dst = some d) (hoL : ol.op = .assign (.tmp (lo + k + 1)))
    (hK : ∀ (x : Act) (w' : World) (g cap : Nat), x.defers = a.defers → x.tmps.size = N → (∀ s, s ≠ d → (s < lo ∨ lo + k + 1 < s) → x.tmps[s]? = a.tmps[s]?) → x.tmps[d]?.getD undef = .slice (some ⟨g, 0, none⟩) (n + news.length) cap →
      w'.ownsRow base e 1 (.slice (some ⟨g, 0, none⟩) (n + news.length) cap) (n + news.length) (xs ++ news) → w.drew.grownBy w' b.ownBlock → (b.ownBlock = some g ∨ w.heap.size ≤ g) → Q .normal x w') : (Code.region id ops true).wp P Q a w := by
  refine wp_region_kept (appInv ops lo k d N V base e b n xs news w.drew a) hm he ?h0 ?hs ?hd
  case h0 =>
    refine ⟨fun i h => (by cases h), ⟨rfl, hN, fun _ _ _ => rfl⟩, fun _ => rfl, fun i _ h => (by cases h), fun _ => ⟨by_refl _ _, hown, fun h => (by cases h)⟩, fun h => (by cases h)⟩
  case hd =>
    intro L x w' ⟨_, hf, _, _, _, h2⟩ hall
    obtain ⟨hg, g, cap, _, ho, hw, hdd⟩ := h2 (hall _ (by omega))
    exact hK x w' g cap hf.1 hf.2.1 hf.2.2 (hdd (hall _ (by omega))) ho hg hw
  case hs =>
    intro L x w' i ⟨hc, hf, hd0, hv, hopen, hend⟩ hik hLi hw
    have hclosed : ∀ i', (fun j => if i = j then true else L j) i' = true → ∀ j ∈ waitsFor .any ops i', (fun j => if i = j then true else L j) j = true := by
      intro i' h' j hj
      by_cases e1 : i = j
      · simp [e1]
      · by_cases e2 : i = i'
        · subst e2
          simp [hw j hj]
        · simp only [if_neg e2] at h'
          simp [hc i' h' j hj]
    have hlastw : L (k + 2) = true → L (k + 1) = true := fun h => hc _ h _ (by simpa using hlast)
    have hdown : L (k + 1) = true → ∀ i, i < k + 1 → L i = true := fun h => sink_done hsink hc h
    by_cases hi1 : i < k
    · have hL1 : L (k + 1) = false := by
        cases h : L (k + 1) with
        | false => rfl
        | true => have := hdown h i (by omega); rw [hLi] at this; cases this
      have hL2 : L (k + 2) = false := by
        cases h : L (k + 2) with
        | false => rfl
        | true => have := hlastw h; rw [hL1] at this; cases this
      obtain ⟨hg, ho, hb⟩ := hopen hL1
      have hd1 := hd0 hL2
      refine wpOp_mono ?_ (hops i hi1 x w' ⟨hf.1, hf.2.1, fun s hs => by
        by_cases e1 : s = d
        · rw [e1]; exact hd1
        · exact hf.2.2 s e1 hs⟩ hg (fun j hj hjk => hv j hjk (hw j hj)))
      rintro x' w'' ⟨rfl, hg'⟩
      refine ⟨hclosed, ⟨hf.1, by simp [Act.put, hf.2.1], fun s hsd hs => (tmps_put x _ s _ (by omega)).trans (hf.2.2 s hsd hs)⟩, fun _ => (tmps_put x _ d _ (by omega)).trans hd1, ?_, ?_, ?_⟩
      · intro j hj hLj
        by_cases e1 : i = j
        · subst e1
          exact put_here x _ _ (by rw [hf.2.1]; omega)
        · simp only [if_neg e1] at hLj
          rw [put_there x _ _ _ (by omega)]
          exact hv j hj hLj
      · intro _
        refine ⟨by_trans hg hg', own_kept ho hg', fun hLk => ?_⟩
        simp only [if_neg (show ¬ i = k by omega)] at hLk
        obtain ⟨g, e1, e2, e3⟩ := hb hLk
        refine ⟨g, ?_, e2, e3.grown hg' (by intro e; cases e)⟩
        rw [put_there x _ _ _ (by omega)]
        exact e1
      · intro h
        simp only [if_neg (show ¬ i = k + 1 by omega), hL1] at h
        cases h
    · by_cases hi2 : i = k
      · subst hi2
        have hL1 : L (i + 1) = false := by
          cases h : L (i + 1) with
          | false => rfl
          | true => have := hdown h i (by omega); rw [hLi] at this; cases this
        have hL2 : L (i + 2) = false := by
          cases h : L (i + 2) with
          | false => rfl
          | true => have := hlastw h; rw [hL1] at this; cases this
        obtain ⟨hg, ho, hb⟩ := hopen hL1
        have hd1 := hd0 hL2
        obtain ⟨o, ho1, ho2, ho3, ho4⟩ := hbuild x w' (fun j hj hjk => hv j hjk (hw j hj))
        refine wpOp_value ho1 ho2 ho4 ?_
        rw [ho3]
        refine ⟨hclosed, ⟨hf.1, by simp [Act.put, hf.2.1], fun s hsd hs => (tmps_put x _ s _ (by omega)).trans (hf.2.2 s hsd hs)⟩, fun _ => (tmps_put x _ d _ (by omega)).trans hd1, ?_, ?_, ?_⟩
        · intro j hj hLj
          simp only [if_neg (show ¬ i = j by omega)] at hLj
          rw [put_there x _ _ _ (by omega)]
          exact hv j hj hLj
        · intro _
          refine ⟨by_alloc hg _, ho.alloc _, fun _ => ⟨w'.heap.size, put_here x _ _ (by rw [hf.2.1]; omega), hg.size, Blk.new _ _ _⟩⟩
        · intro h
          simp only [if_neg (show ¬ i = i + 1 by omega), hL1] at h
          cases h
      · by_cases hi3 : i = k + 1
        · subst hi3
          have hall := fun j hj => sink_done (L := fun j => if k + 1 = j then true else L j) hsink hclosed (by simp) j hj
          have hLr : L r = true := by have := hall r (by omega); simpa only [if_neg (show ¬ k + 1 = r by omega)] using this
          have hLk : L k = true := by have := hall k (by omega); simpa only [if_neg (show ¬ k + 1 = k by omega)] using this
          have hL2 : L (k + 2) = false := by
            cases h : L (k + 2) with
            | false => rfl
            | true => have := hlastw h; rw [hLi] at this; cases this
          obtain ⟨hg, ho, hb⟩ := hopen hLi
          obtain ⟨g, eg, hg0, hB⟩ := hb hLk
          have er := hv r hr hLr
          rw [hVr] at er
          have hd1 := hd0 hL2
          simp only [wpOp, happ, Region.wanted, hga]
          refine Or.inl ?_
          refine wp_append_lies w' (.tmp (lo + r)) (.tmp (lo + k)) t hoa base e i0 z 1 i0.bytes ht hi hz hsize rfl hzs (by omega) b n xs (by simpa [Act.eval] using er) ho ⟨g, 0, none⟩ news.length news.length news (by simpa [Act.eval] using eg) (by omega) ?_ h1 hnews (by unfold maxLen; omega) ?_ (Nat.le_trans hbase hg.size) _ rfl ?_
          · intro j u hu
            rw [show (⟨g, 0, none⟩ : Addr).add j = ⟨g, 0 + j, none⟩ by unfold Addr.add; split <;> simp_all, hB.cell]
            simpa using hu
          · have := Nat.mul_le_mul hsum hby
            omega
          · intro g2 cap w2 hown2 hgr2 hat _
            rw [hda]
            refine ⟨hclosed, ⟨hf.1, by simp [Act.put, hf.2.1], fun s hsd hs => (tmps_put x _ s _ (by omega)).trans (hf.2.2 s hsd hs)⟩, fun _ => (tmps_put x _ d _ (by omega)).trans hd1, ?_, ?_, ?_⟩
            · intro j hj hLj
              simp only [if_neg (show ¬ k + 1 = j by omega)] at hLj
              rw [put_there x _ _ _ (by omega)]
              exact hv j hj hLj
            · intro h
              simp at h
            · intro _
              refine ⟨by_trans (by_any hg) hgr2, g2, cap, put_here x _ _ (by rw [hf.2.1]; omega), hown2, hat.imp (fun e => e) (fun e => by rw [e]; exact hg.size), fun h => ?_⟩
              simp only [if_neg (show ¬ k + 1 = k + 2 by omega), hL2] at h
              cases h
        · have hi4 : i = k + 2 := by omega
          subst hi4
          have hL1 : L (k + 1) = true := hw _ (by simpa using hlast)
          obtain ⟨hg, g, cap, e1, e2, e3, _⟩ := hend hL1
          refine wpOp_value (v := .slice (some ⟨g, 0, none⟩) (n + news.length) cap) (w' := w') hol hgl ?_ ?_
          · have ev : x.eval (.tmp (lo + k + 1)) = .slice (some ⟨g, 0, none⟩) (n + news.length) cap := by simpa [Act.eval] using e1
            simp [execOp, hoL, ev]
          · rw [hdl]
            refine ⟨hclosed, ⟨hf.1, by simp [Act.put, hf.2.1], fun s hsd hs => (tmps_put x _ s _ (by omega)).trans (hf.2.2 s hsd hs)⟩, fun h => (by simp at h), ?_, fun h => ?_, fun _ => ⟨hg, g, cap, ?_, e2, e3, fun _ => put_here x _ _ (by rw [hf.2.1]; omega)⟩⟩
            · intro j hj hLj
              simp only [if_neg (show ¬ k + 2 = j by omega)] at hLj
              rw [put_there x _ _ _ (by omega)]
              exact hv j hj hLj
            · simp only [if_neg (show ¬ k + 2 = k + 1 by omega), hL1] at h
              cases h
            · rw [put_there x _ _ _ (by omega)]
              exact e1
end
/-- The frame written out again: what lies in the slots lo to lo + m is letters, slot d is known. -/
theorem frame_again {F : List Value} {x : Act} (lo m d : Nat) (v : Value) (hd : x.defers = []) (hs : x.tmps.size = F.length) (hk : ∀ s, s ≠ d → (s < lo ∨ lo + m ≤ s) → x.tmps[s]? = F.toArray[s]?) (hv : x.tmps[d]?.getD undef = v) (hdl : d < lo) (hlo : lo + m ≤ F.length) :
    ∃ ys : List Value, ys.length = m ∧ x = ⟨((F.take lo).set d v ++ (ys ++ F.drop (lo + m))).toArray, []⟩ := by
  obtain ⟨⟨X⟩, D⟩ := x
  simp only at hd
  subst hd
  have hs : X.length = F.length := hs
  have hk : ∀ s, s ≠ d → (s < lo ∨ lo + m ≤ s) → X[s]? = F[s]? := fun s h1 h2 => by simpa using hk s h1 h2
  have hv : X[d]?.getD undef = v := by simpa using hv
  refine ⟨(X.drop lo).take m, by rw [List.length_take, List.length_drop]; omega, ?_⟩
  congr 2
  apply List.ext_getElem?
  intro i
  by_cases h1 : i < lo
  · rw [List.getElem?_append_left (by rw [List.length_set, List.length_take]; omega), List.getElem?_set, List.length_take, List.getElem?_take, if_pos h1]
    by_cases h2 : d = i
    · rw [if_pos h2, if_pos (by omega), ← h2, ← hv, List.getElem?_eq_getElem (by omega)]
      rfl
    · rw [if_neg h2]
      exact hk i (fun e => h2 e.symm) (Or.inl h1)
  · rw [List.getElem?_append_right (by rw [List.length_set, List.length_take]; omega), List.length_set, List.length_take, Nat.min_eq_left (by omega)]
    have hl : ((X.drop lo).take m).length = m := by rw [List.length_take, List.length_drop]; omega
    by_cases h2 : i < lo + m
    · rw [List.getElem?_append_left (by rw [hl]; omega), List.getElem?_take, if_pos (by omega), List.getElem?_drop]
      congr 1
      omega
    · rw [List.getElem?_append_right (by rw [hl]; omega), hl, List.getElem?_drop, hk i (by omega) (Or.inr (by omega))]
      congr 1
      omega
theorem list27 (l : List Value) (h : l.length = 27) : ∃ y0 y1 y2 y3 y4 y5 y6 y7 y8 y9 y10 y11 y12 y13 y14 y15 y16 y17 y18 y19 y20 y21 y22 y23 y24 y25 y26 : Value, l = [y0, y1, y2, y3, y4, y5, y6, y7, y8, y9, y10, y11, y12, y13, y14, y15, y16, y17, y18, y19, y20, y21, y22, y23, y24, y25, y26] := by
  obtain ⟨y0, t1, e1, h1⟩ := cons_of h
  obtain ⟨y1, t2, e2, h2⟩ := cons_of h1
  obtain ⟨y2, t3, e3, h3⟩ := cons_of h2
  obtain ⟨y3, t4, e4, h4⟩ := cons_of h3
  obtain ⟨y4, t5, e5, h5⟩ := cons_of h4
  obtain ⟨y5, t6, e6, h6⟩ := cons_of h5
  obtain ⟨y6, t7, e7, h7⟩ := cons_of h6
  obtain ⟨y7, t8, e8, h8⟩ := cons_of h7
  obtain ⟨y8, t9, e9, h9⟩ := cons_of h8
  obtain ⟨y9, t10, e10, h10⟩ := cons_of h9
  obtain ⟨y10, t11, e11, h11⟩ := cons_of h10
  obtain ⟨y11, t12, e12, h12⟩ := cons_of h11
  obtain ⟨y12, t13, e13, h13⟩ := cons_of h12
  obtain ⟨y13, t14, e14, h14⟩ := cons_of h13
  obtain ⟨y14, t15, e15, h15⟩ := cons_of h14
  obtain ⟨y15, t16, e16, h16⟩ := cons_of h15
  obtain ⟨y16, t17, e17, h17⟩ := cons_of h16
  obtain ⟨y17, t18, e18, h18⟩ := cons_of h17
  obtain ⟨y18, t19, e19, h19⟩ := cons_of h18
  obtain ⟨y19, t20, e20, h20⟩ := cons_of h19
  obtain ⟨y20, t21, e21, h21⟩ := cons_of h20
  obtain ⟨y21, t22, e22, h22⟩ := cons_of h21
  obtain ⟨y22, t23, e23, h23⟩ := cons_of h22
  obtain ⟨y23, t24, e24, h24⟩ := cons_of h23
  obtain ⟨y24, t25, e25, h25⟩ := cons_of h24
  obtain ⟨y25, t26, e26, h26⟩ := cons_of h25
  obtain ⟨y26, t27, e27, h27⟩ := cons_of h26
  have e28 := List.eq_nil_of_length_eq_zero h27
  exact ⟨y0, y1, y2, y3, y4, y5, y6, y7, y8, y9, y10, y11, y12, y13, y14, y15, y16, y17, y18, y19, y20, y21, y22, y23, y24, y25, y26, by rw [e1, e2, e3, e4, e5, e6, e7, e8, e9, e10, e11, e12, e13, e14, e15, e16, e17, e18, e19, e20, e21, e22, e23, e24, e25, e26, e27, e28]⟩
theorem list32 (l : List Value) (h : l.length = 32) : ∃ y0 y1 y2 y3 y4 y5 y6 y7 y8 y9 y10 y11 y12 y13 y14 y15 y16 y17 y18 y19 y20 y21 y22 y23 y24 y25 y26 y27 y28 y29 y30 y31 : Value, l = [y0, y1, y2, y3, y4, y5, y6, y7, y8, y9, y10, y11, y12, y13, y14, y15, y16, y17, y18, y19, y20, y21, y22, y23, y24, y25, y26, y27, y28, y29, y30, y31] := by
  obtain ⟨y0, t1, e1, h1⟩ := cons_of h
  obtain ⟨y1, t2, e2, h2⟩ := cons_of h1
  obtain ⟨y2, t3, e3, h3⟩ := cons_of h2
  obtain ⟨y3, t4, e4, h4⟩ := cons_of h3
  obtain ⟨y4, t5, e5, h5⟩ := cons_of h4
  obtain ⟨y5, t6, e6, h6⟩ := cons_of h5
  obtain ⟨y6, t7, e7, h7⟩ := cons_of h6
  obtain ⟨y7, t8, e8, h8⟩ := cons_of h7
  obtain ⟨y8, t9, e9, h9⟩ := cons_of h8
  obtain ⟨y9, t10, e10, h10⟩ := cons_of h9
  obtain ⟨y10, t11, e11, h11⟩ := cons_of h10
  obtain ⟨y11, t12, e12, h12⟩ := cons_of h11
  obtain ⟨y12, t13, e13, h13⟩ := cons_of h12
  obtain ⟨y13, t14, e14, h14⟩ := cons_of h13
  obtain ⟨y14, t15, e15, h15⟩ := cons_of h14
  obtain ⟨y15, t16, e16, h16⟩ := cons_of h15
  obtain ⟨y16, t17, e17, h17⟩ := cons_of h16
  obtain ⟨y17, t18, e18, h18⟩ := cons_of h17
  obtain ⟨y18, t19, e19, h19⟩ := cons_of h18
  obtain ⟨y19, t20, e20, h20⟩ := cons_of h19
  obtain ⟨y20, t21, e21, h21⟩ := cons_of h20
  obtain ⟨y21, t22, e22, h22⟩ := cons_of h21
  obtain ⟨y22, t23, e23, h23⟩ := cons_of h22
  obtain ⟨y23, t24, e24, h24⟩ := cons_of h23
  obtain ⟨y24, t25, e25, h25⟩ := cons_of h24
  obtain ⟨y25, t26, e26, h26⟩ := cons_of h25
  obtain ⟨y26, t27, e27, h27⟩ := cons_of h26
  obtain ⟨y27, t28, e28, h28⟩ := cons_of h27
  obtain ⟨y28, t29, e29, h29⟩ := cons_of h28
  obtain ⟨y29, t30, e30, h30⟩ := cons_of h29
  obtain ⟨y30, t31, e31, h31⟩ := cons_of h30
  obtain ⟨y31, t32, e32, h32⟩ := cons_of h31
  have e33 := List.eq_nil_of_length_eq_zero h32
  exact ⟨y0, y1, y2, y3, y4, y5, y6, y7, y8, y9, y10, y11, y12, y13, y14, y15, y16, y17, y18, y19, y20, y21, y22, y23, y24, y25, y26, y27, y28, y29, y30, y31, by rw [e1, e2, e3, e4, e5, e6, e7, e8, e9, e10, e11, e12, e13, e14, e15, e16, e17, e18, e19, e20, e21, e22, e23, e24, e25, e26, e27, e28, e29, e30, e31, e32, e33]⟩
end Go.Proofs.Ytkcjiogackkecaa
