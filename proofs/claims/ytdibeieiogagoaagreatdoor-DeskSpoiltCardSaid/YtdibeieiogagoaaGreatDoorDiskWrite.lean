/-
  A disk's power that goes at a call; one sector written. No statement is proved here.
-/
import Derived.Test.YtdibeieiogagoaaGreatDoorBytes
import Derived.Test.YtdibeieiogagoaaGreatDoorDiskClone
namespace Go.Proofs.YtdibeieiogagoaaGreatDoor
open Go.RowKit

/-- Each operation below n is waited for by a later one, up to n. -/
def sinkL (ops : Array Oper) (n : Nat) : Bool := (List.range n).all fun i => (List.range (n + 1)).any fun j => decide (i < j) && (waitsFor .any ops j).contains i
theorem sink_done {ops : Array Oper} {n : Nat} {L : Nat → Bool} (hs : sinkL ops n = true) (hc : ∀ i, L i = true → ∀ j ∈ waitsFor .any ops i, L j = true) (hn : L n = true) : ∀ i, i < n → L i = true := by
  have key : ∀ d i, i < n → n - i ≤ d → L i = true := by
    intro d
    induction d with
    | zero => intro i h1 h2; omega
    | succ d ih =>
      intro i h1 h2
      have h := List.all_eq_true.1 hs i (List.mem_range.2 h1)
      obtain ⟨j, hj, hw⟩ := List.any_eq_true.1 h
      simp only [Bool.and_eq_true, decide_eq_true_eq, List.contains_iff_mem] at hw
      have hj' : j < n + 1 := List.mem_range.1 hj
      refine hc j ?_ i hw.2
      by_cases e : j = n
      · rw [e]; exact hn
      · exact ih j (by omega) (by omega)
  exact fun i h => key (n - i) i h (Nat.le_refl _)

theorem own_kept {w w' : World} {base size n : Nat} {e : TypeId} {v : Value} {xs : List Value} (h : w.ownsRow base e size v n xs) (hg : w.grownBy w' none) : w'.ownsRow base e size v n xs :=
  h.kept hg (by cases hv : v.ownBlock <;> simp)
section
variable {P : Program} {ops : Array Oper} {Q : Exit → Act → World → Prop}
/-- What holds along the way. -/
def appInv (ops : Array Oper) (lo k d N : Nat) (V : Nat → Value) (base : Nat) (e : TypeId) (b : Value) (n : Nat) (xs news : List Value) (w0 : World) (F : Act) (L : Nat → Bool) (x : Act) (w : World) : Prop :=
  (∀ i, L i = true → ∀ j ∈ waitsFor .any ops i, L j = true) ∧
  (x.defers = F.defers ∧ x.tmps.size = N ∧ ∀ s, s ≠ d → (s < lo ∨ lo + k + 1 < s) → x.tmps[s]? = F.tmps[s]?) ∧
  (L (k + 2) = false → x.tmps[d]? = F.tmps[d]?) ∧
  (∀ i, i < k → L i = true → x.tmps[lo + i]?.getD undef = V i) ∧
  (L (k + 1) = false → w0.grownBy w none ∧ w.ownsRow base e 1 b n xs ∧ (L k = true → ∃ g, x.tmps[lo + k]?.getD undef = .slice (some ⟨g, 0, none⟩) news.length news.length ∧ w0.heap.size ≤ g ∧ Blk w g e news.toArray)) ∧
  (L (k + 1) = true → w0.grownBy w b.ownBlock ∧ ∃ g cap, x.tmps[lo + k + 1]?.getD undef = .slice (some ⟨g, 0, none⟩) (n + news.length) cap ∧ w.ownsRow base e 1 (.slice (some ⟨g, 0, none⟩) (n + news.length) cap) (n + news.length) (xs ++ news) ∧ (b.ownBlock = some g ∨ w0.heap.size ≤ g) ∧ (L (k + 2) = true → x.tmps[d]?.getD undef = .slice (some ⟨g, 0, none⟩) (n + news.length) cap))

theorem tmps_put (x : Act) (t s : Nat) (v : Value) (h : t ≠ s) : (x.put (some t) v).tmps[s]? = x.tmps[s]? := by
  simp only [Act.put]
  rw [Array.getElem?_setIfInBounds_ne h]
theorem wp_region_append (lo k d N r : Nat) (V : Nat → Value) (base : Nat) (t e : TypeId) (i0 : TypeInfo) (z : Value) (b : Value) (n : Nat) (xs news : List Value) {id : Nat} {a : Act} {w : World}
    (hm : P.follows .mixedOrders = true) (he : early .any ops = true) (hk : ops.size = k + 3) (hsink : sinkL ops (k + 1) = true) (hlast : (waitsFor .any ops (k + 2)).contains (k + 1) = true)
    (hN : a.tmps.size = N) (hlo : lo + k + 1 < N) (hd : d < lo)
    (ht : P.underlying t = some (.slice e)) (hi : P.info? e = some i0) (hz : i0.zero = some z) (hsize : i0.size = 1) (hby : i0.bytes ≤ 16) (hzs : z.cells.size = 1)
    (hown : w.ownsRow base e 1 b n xs) (hbase : base ≤ w.heap.size) (hnews : 0 < news.length) (h1 : ∀ u ∈ news, u.oneCell' = true) (hsum : n + news.length ≤ 1000000)
    (hops : ∀ i, i < k → ∀ (x : Act) (w' : World), (x.defers = a.defers ∧ x.tmps.size = N ∧ ∀ s, (s < lo ∨ lo + k + 1 < s) → x.tmps[s]? = a.tmps[s]?) → w.drew.grownBy w' none → (∀ j ∈ waitsFor .any ops i, j < k → x.tmps[lo + j]?.getD undef = V j) →
      wpOp P ops Q i (fun x' w'' => x' = x.put (some (lo + i)) (V i) ∧ w'.grownBy w'' none) x w')
    (hbuild : ∀ (x : Act) (w' : World), (∀ j ∈ waitsFor .any ops k, j < k → x.tmps[lo + j]?.getD undef = V j) → ∃ o, ops[k]? = some o ∧ o.guard = none ∧ o.dst = some (lo + k) ∧ (execOp x.eval o).run P w' = .ok (.value (.slice (some ⟨w'.heap.size, 0, none⟩) news.length news.length)) (w'.alloc (.cells news.toArray e)))
    (oa ol : Oper) (happ : ops[k + 1]? = some oa) (hga : oa.guard = none) (hda : oa.dst = some (lo + k + 1)) (hoa : oa.op = .call { callee := .builtin .append, args := #[.tmp (lo + r), .tmp (lo + k)], argTypes := #[t, t] }) (hr : r < k) (hVr : V r = b)
    (hol : ops[k + 2]? = some ol) (hgl : ol.guard = none) (hdl : ol.dst = some d) (hoL : ol.op = .assign (.tmp (lo + k + 1)))
    (hK : ∀ (x : Act) (w' : World) (g cap : Nat), x.defers = a.defers → x.tmps.size = N → (∀ s, s ≠ d → (s < lo ∨ lo + k + 1 < s) → x.tmps[s]? = a.tmps[s]?) → x.tmps[d]?.getD undef = .slice (some ⟨g, 0, none⟩) (n + news.length) cap →
      w'.ownsRow base e 1 (.slice (some ⟨g, 0, none⟩) (n + news.length) cap) (n + news.length) (xs ++ news) → w.drew.grownBy w' b.ownBlock → (b.ownBlock = some g ∨ w.heap.size ≤ g) → Q .normal x w') : (Code.region id ops true).wp P Q a w := by
  refine wp_region_kept (appInv ops lo k d N V base e b n xs news w.drew a) hm he ?h0 ?hs ?hd
  case h0 =>
    refine ⟨fun i h => (by cases h), ⟨rfl, hN, fun _ _ _ => rfl⟩, fun _ => rfl, fun i _ h => (by cases h), fun _ => ⟨by_refl _ _, hown, fun h => (by cases h)⟩, fun h => (by cases h)⟩
  case hd =>
    intro L x w' ⟨_, hf, _, _, _, h2⟩ hall
    obtain ⟨hg, g, cap, _, ho, hw, hdd⟩ := h2 (hall _ (by omega))
    exact hK x w' g cap hf.1 hf.2.1 hf.2.2 (hdd (hall _ (by omega))) ho hg hw
  case hs =>
    intro L x w' i ⟨hc, hf, hd0, hv, hopen, hend⟩ hik hLi hw
    have hclosed : ∀ i', (fun j => if i = j then true else L j) i' = true → ∀ j ∈ waitsFor .any ops i', (fun j => if i = j then true else L j) j = true := by
      intro i' h' j hj
      by_cases e1 : i = j
      · simp [e1]
      · by_cases e2 : i = i'
        · subst e2
          simp [hw j hj]
        · simp only [if_neg e2] at h'
          simp [hc i' h' j hj]
    have hlastw : L (k + 2) = true → L (k + 1) = true := fun h => hc _ h _ (by simpa using hlast)
    have hdown : L (k + 1) = true → ∀ i, i < k + 1 → L i = true := fun h => sink_done hsink hc h
    by_cases hi1 : i < k
    · have hL1 : L (k + 1) = false := by
        cases h : L (k + 1) with
        | false => rfl
        | true => have := hdown h i (by omega); rw [hLi] at this; cases this
      have hL2 : L (k + 2) = false := by
        cases h : L (k + 2) with
        | false => rfl
        | true => have := hlastw h; rw [hL1] at this; cases this
      obtain ⟨hg, ho, hb⟩ := hopen hL1
      have hd1 := hd0 hL2
      refine wpOp_mono ?_ (hops i hi1 x w' ⟨hf.1, hf.2.1, fun s hs => by
        by_cases e1 : s = d
        · rw [e1]; exact hd1
        · exact hf.2.2 s e1 hs⟩ hg (fun j hj hjk => hv j hjk (hw j hj)))
      rintro x' w'' ⟨rfl, hg'⟩
      refine ⟨hclosed, ⟨hf.1, by simp [Act.put, hf.2.1], fun s hsd hs => (tmps_put x _ s _ (by omega)).trans (hf.2.2 s hsd hs)⟩, fun _ => (tmps_put x _ d _ (by omega)).trans hd1, ?_, ?_, ?_⟩
      · intro j hj hLj
        by_cases e1 : i = j
        · subst e1
          exact put_here x _ _ (by rw [hf.2.1]; omega)
        · simp only [if_neg e1] at hLj
          rw [put_there x _ _ _ (by omega)]
          exact hv j hj hLj
      · intro _
        refine ⟨by_trans hg hg', own_kept ho hg', fun hLk => ?_⟩
        simp only [if_neg (show ¬ i = k by omega)] at hLk
        obtain ⟨g, e1, e2, e3⟩ := hb hLk
        refine ⟨g, ?_, e2, e3.grown hg' (by intro e; cases e)⟩
        rw [put_there x _ _ _ (by omega)]
        exact e1
      · intro h
        simp only [if_neg (show ¬ i = k + 1 by omega), hL1] at h
        cases h
    · by_cases hi2 : i = k
      · subst hi2
        have hL1 : L (i + 1) = false := by
          cases h : L (i + 1) with
          | false => rfl
          | true => have := hdown h i (by omega); rw [hLi] at this; cases this
        have hL2 : L (i + 2) = false := by
          cases h : L (i + 2) with
          | false => rfl
          | true => have := hlastw h; rw [hL1] at this; cases this
        obtain ⟨hg, ho, hb⟩ := hopen hL1
        have hd1 := hd0 hL2
        obtain ⟨o, ho1, ho2, ho3, ho4⟩ := hbuild x w' (fun j hj hjk => hv j hjk (hw j hj))
        refine wpOp_value ho1 ho2 ho4 ?_
        rw [ho3]
        refine ⟨hclosed, ⟨hf.1, by simp [Act.put, hf.2.1], fun s hsd hs => (tmps_put x _ s _ (by omega)).trans (hf.2.2 s hsd hs)⟩, fun _ => (tmps_put x _ d _ (by omega)).trans hd1, ?_, ?_, ?_⟩
        · intro j hj hLj
          simp only [if_neg (show ¬ i = j by omega)] at hLj
          rw [put_there x _ _ _ (by omega)]
          exact hv j hj hLj
        · intro _
          refine ⟨by_alloc hg _, ho.alloc _, fun _ => ⟨w'.heap.size, put_here x _ _ (by rw [hf.2.1]; omega), hg.size, Blk.new _ _ _⟩⟩
        · intro h
          simp only [if_neg (show ¬ i = i + 1 by omega), hL1] at h
          cases h
      · by_cases hi3 : i = k + 1
        · subst hi3
          have hall := fun j hj => sink_done (L := fun j => if k + 1 = j then true else L j) hsink hclosed (by simp) j hj
          have hLr : L r = true := by have := hall r (by omega); simpa only [if_neg (show ¬ k + 1 = r by omega)] using this
          have hLk : L k = true := by have := hall k (by omega); simpa only [if_neg (show ¬ k + 1 = k by omega)] using this
          have hL2 : L (k + 2) = false := by
            cases h : L (k + 2) with
            | false => rfl
            | true => have := hlastw h; rw [hLi] at this; cases this
          obtain ⟨hg, ho, hb⟩ := hopen hLi
          obtain ⟨g, eg, hg0, hB⟩ := hb hLk
          have er := hv r hr hLr
          rw [hVr] at er
          have hd1 := hd0 hL2
          simp only [wpOp, happ, Region.wanted, hga]
          refine Or.inl ?_
          refine wp_append_lies w' (.tmp (lo + r)) (.tmp (lo + k)) t hoa base e i0 z 1 i0.bytes ht hi hz hsize rfl hzs (by omega) b n xs (by simpa [Act.eval] using er) ho ⟨g, 0, none⟩ news.length news.length news (by simpa [Act.eval] using eg) (by omega) ?_ h1 hnews (by unfold maxLen; omega) ?_ (Nat.le_trans hbase hg.size) _ rfl ?_
          · intro j u hu
            rw [show (⟨g, 0, none⟩ : Addr).add j = ⟨g, 0 + j, none⟩ by unfold Addr.add; split <;> simp_all, hB.cell]
            simpa using hu
          · have := Nat.mul_le_mul hsum hby
            omega
          · intro g2 cap w2 hown2 hgr2 hat _
            rw [hda]
            refine ⟨hclosed, ⟨hf.1, by simp [Act.put, hf.2.1], fun s hsd hs => (tmps_put x _ s _ (by omega)).trans (hf.2.2 s hsd hs)⟩, fun _ => (tmps_put x _ d _ (by omega)).trans hd1, ?_, ?_, ?_⟩
            · intro j hj hLj
              simp only [if_neg (show ¬ k + 1 = j by omega)] at hLj
              rw [put_there x _ _ _ (by omega)]
              exact hv j hj hLj
            · intro h
              simp at h
            · intro _
              refine ⟨by_trans (by_any hg) hgr2, g2, cap, put_here x _ _ (by rw [hf.2.1]; omega), hown2, hat.imp (fun e => e) (fun e => by rw [e]; exact hg.size), fun h => ?_⟩
              simp only [if_neg (show ¬ k + 1 = k + 2 by omega), hL2] at h
              cases h
        · have hi4 : i = k + 2 := by omega
          subst hi4
          have hL1 : L (k + 1) = true := hw _ (by simpa using hlast)
          obtain ⟨hg, g, cap, e1, e2, e3, _⟩ := hend hL1
          refine wpOp_value (v := .slice (some ⟨g, 0, none⟩) (n + news.length) cap) (w' := w') hol hgl ?_ ?_
          · have ev : x.eval (.tmp (lo + k + 1)) = .slice (some ⟨g, 0, none⟩) (n + news.length) cap := by simpa [Act.eval] using e1
            simp [execOp, hoL, ev]
          · rw [hdl]
            refine ⟨hclosed, ⟨hf.1, by simp [Act.put, hf.2.1], fun s hsd hs => (tmps_put x _ s _ (by omega)).trans (hf.2.2 s hsd hs)⟩, fun h => (by simp at h), ?_, fun h => ?_, fun _ => ⟨hg, g, cap, ?_, e2, e3, fun _ => put_here x _ _ (by rw [hf.2.1]; omega)⟩⟩
            · intro j hj hLj
              simp only [if_neg (show ¬ k + 2 = j by omega)] at hLj
              rw [put_there x _ _ _ (by omega)]
              exact hv j hj hLj
            · simp only [if_neg (show ¬ k + 2 = k + 1 by omega), hL1] at h
              cases h
            · rw [put_there x _ _ _ (by omega)]
              exact e1
end
/-- The frame written out again: what lies in the slots lo to lo + m is letters, slot d is known. -/
theorem frame_again {F : List Value} {x : Act} (lo m d : Nat) (v : Value) (hd : x.defers = []) (hs : x.tmps.size = F.length) (hk : ∀ s, s ≠ d → (s < lo ∨ lo + m ≤ s) → x.tmps[s]? = F.toArray[s]?) (hv : x.tmps[d]?.getD undef = v) (hdl : d < lo) (hlo : lo + m ≤ F.length) :
    ∃ ys : List Value, ys.length = m ∧ x = ⟨((F.take lo).set d v ++ (ys ++ F.drop (lo + m))).toArray, []⟩ := by
  obtain ⟨⟨X⟩, D⟩ := x
  simp only at hd
  subst hd
  have hs : X.length = F.length := hs
  have hk : ∀ s, s ≠ d → (s < lo ∨ lo + m ≤ s) → X[s]? = F[s]? := fun s h1 h2 => by simpa using hk s h1 h2
  have hv : X[d]?.getD undef = v := by simpa using hv
  refine ⟨(X.drop lo).take m, by rw [List.length_take, List.length_drop]; omega, ?_⟩
  congr 2
  apply List.ext_getElem?
  intro i
  by_cases h1 : i < lo
  · rw [List.getElem?_append_left (by rw [List.length_set, List.length_take]; omega), List.getElem?_set, List.length_take, List.getElem?_take, if_pos h1]
    by_cases h2 : d = i
    · rw [if_pos h2, if_pos (by omega), ← h2, ← hv, List.getElem?_eq_getElem (by omega)]
      rfl
    · rw [if_neg h2]
      exact hk i (fun e => h2 e.symm) (Or.inl h1)
  · rw [List.getElem?_append_right (by rw [List.length_set, List.length_take]; omega), List.length_set, List.length_take, Nat.min_eq_left (by omega)]
    have hl : ((X.drop lo).take m).length = m := by rw [List.length_take, List.length_drop]; omega
    by_cases h2 : i < lo + m
    · rw [List.getElem?_append_left (by rw [hl]; omega), List.getElem?_take, if_pos (by omega), List.getElem?_drop]
      congr 1
      omega
    · rw [List.getElem?_append_right (by rw [hl]; omega), hl, List.getElem?_drop, hk i (by omega) (Or.inr (by omega))]
      congr 1
      omega
theorem list27 (l : List Value) (h : l.length = 27) : ∃ y0 y1 y2 y3 y4 y5 y6 y7 y8 y9 y10 y11 y12 y13 y14 y15 y16 y17 y18 y19 y20 y21 y22 y23 y24 y25 y26 : Value, l = [y0, y1, y2, y3, y4, y5, y6, y7, y8, y9, y10, y11, y12, y13, y14, y15, y16, y17, y18, y19, y20, y21, y22, y23, y24, y25, y26] := by
  obtain ⟨y0, t1, e1, h1⟩ := cons_of h
  obtain ⟨y1, t2, e2, h2⟩ := cons_of h1
  obtain ⟨y2, t3, e3, h3⟩ := cons_of h2
  obtain ⟨y3, t4, e4, h4⟩ := cons_of h3
  obtain ⟨y4, t5, e5, h5⟩ := cons_of h4
  obtain ⟨y5, t6, e6, h6⟩ := cons_of h5
  obtain ⟨y6, t7, e7, h7⟩ := cons_of h6
  obtain ⟨y7, t8, e8, h8⟩ := cons_of h7
  obtain ⟨y8, t9, e9, h9⟩ := cons_of h8
  obtain ⟨y9, t10, e10, h10⟩ := cons_of h9
  obtain ⟨y10, t11, e11, h11⟩ := cons_of h10
  obtain ⟨y11, t12, e12, h12⟩ := cons_of h11
  obtain ⟨y12, t13, e13, h13⟩ := cons_of h12
  obtain ⟨y13, t14, e14, h14⟩ := cons_of h13
  obtain ⟨y14, t15, e15, h15⟩ := cons_of h14
  obtain ⟨y15, t16, e16, h16⟩ := cons_of h15
  obtain ⟨y16, t17, e17, h17⟩ := cons_of h16
  obtain ⟨y17, t18, e18, h18⟩ := cons_of h17
  obtain ⟨y18, t19, e19, h19⟩ := cons_of h18
  obtain ⟨y19, t20, e20, h20⟩ := cons_of h19
  obtain ⟨y20, t21, e21, h21⟩ := cons_of h20
  obtain ⟨y21, t22, e22, h22⟩ := cons_of h21
  obtain ⟨y22, t23, e23, h23⟩ := cons_of h22
  obtain ⟨y23, t24, e24, h24⟩ := cons_of h23
  obtain ⟨y24, t25, e25, h25⟩ := cons_of h24
  obtain ⟨y25, t26, e26, h26⟩ := cons_of h25
  obtain ⟨y26, t27, e27, h27⟩ := cons_of h26
  have e28 := List.eq_nil_of_length_eq_zero h27
  exact ⟨y0, y1, y2, y3, y4, y5, y6, y7, y8, y9, y10, y11, y12, y13, y14, y15, y16, y17, y18, y19, y20, y21, y22, y23, y24, y25, y26, by rw [e1, e2, e3, e4, e5, e6, e7, e8, e9, e10, e11, e12, e13, e14, e15, e16, e17, e18, e19, e20, e21, e22, e23, e24, e25, e26, e27, e28]⟩
theorem list32 (l : List Value) (h : l.length = 32) : ∃ y0 y1 y2 y3 y4 y5 y6 y7 y8 y9 y10 y11 y12 y13 y14 y15 y16 y17 y18 y19 y20 y21 y22 y23 y24 y25 y26 y27 y28 y29 y30 y31 : Value, l = [y0, y1, y2, y3, y4, y5, y6, y7, y8, y9, y10, y11, y12, y13, y14, y15, y16, y17, y18, y19, y20, y21, y22, y23, y24, y25, y26, y27, y28, y29, y30, y31] := by
  obtain ⟨y0, t1, e1, h1⟩ := cons_of h
  obtain ⟨y1, t2, e2, h2⟩ := cons_of h1
  obtain ⟨y2, t3, e3, h3⟩ := cons_of h2
  obtain ⟨y3, t4, e4, h4⟩ := cons_of h3
  obtain ⟨y4, t5, e5, h5⟩ := cons_of h4
  obtain ⟨y5, t6, e6, h6⟩ := cons_of h5
  obtain ⟨y6, t7, e7, h7⟩ := cons_of h6
  obtain ⟨y7, t8, e8, h8⟩ := cons_of h7
  obtain ⟨y8, t9, e9, h9⟩ := cons_of h8
  obtain ⟨y9, t10, e10, h10⟩ := cons_of h9
  obtain ⟨y10, t11, e11, h11⟩ := cons_of h10
  obtain ⟨y11, t12, e12, h12⟩ := cons_of h11
  obtain ⟨y12, t13, e13, h13⟩ := cons_of h12
  obtain ⟨y13, t14, e14, h14⟩ := cons_of h13
  obtain ⟨y14, t15, e15, h15⟩ := cons_of h14
  obtain ⟨y15, t16, e16, h16⟩ := cons_of h15
  obtain ⟨y16, t17, e17, h17⟩ := cons_of h16
  obtain ⟨y17, t18, e18, h18⟩ := cons_of h17
  obtain ⟨y18, t19, e19, h19⟩ := cons_of h18
  obtain ⟨y19, t20, e20, h20⟩ := cons_of h19
  obtain ⟨y20, t21, e21, h21⟩ := cons_of h20
  obtain ⟨y21, t22, e22, h22⟩ := cons_of h21
  obtain ⟨y22, t23, e23, h23⟩ := cons_of h22
  obtain ⟨y23, t24, e24, h24⟩ := cons_of h23
  obtain ⟨y24, t25, e25, h25⟩ := cons_of h24
  obtain ⟨y25, t26, e26, h26⟩ := cons_of h25
  obtain ⟨y26, t27, e27, h27⟩ := cons_of h26
  obtain ⟨y27, t28, e28, h28⟩ := cons_of h27
  obtain ⟨y28, t29, e29, h29⟩ := cons_of h28
  obtain ⟨y29, t30, e30, h30⟩ := cons_of h29
  obtain ⟨y30, t31, e31, h31⟩ := cons_of h30
  obtain ⟨y31, t32, e32, h32⟩ := cons_of h31
  have e33 := List.eq_nil_of_length_eq_zero h32
  exact ⟨y0, y1, y2, y3, y4, y5, y6, y7, y8, y9, y10, y11, y12, y13, y14, y15, y16, y17, y18, y19, y20, y21, y22, y23, y24, y25, y26, y27, y28, y29, y30, y31, by rw [e1, e2, e3, e4, e5, e6, e7, e8, e9, e10, e11, e12, e13, e14, e15, e16, e17, e18, e19, e20, e21, e22, e23, e24, e25, e26, e27, e28, e29, e30, e31, e32, e33]⟩
end Go.Proofs.YtdibeieiogagoaaGreatDoor

namespace Go.Proofs.YtdibeieiogagoaaGreatDoor
open Go.RowKit

/-- Slots from lo on, written. -/
def putAll (lo k : Nat) (V : Nat → Value) (t : Array Value) : Array Value := (List.range k).foldl (fun t i => t.setIfInBounds (lo + i) (V i)) t
theorem putAll_size (lo k : Nat) (V : Nat → Value) (t : Array Value) : (putAll lo k V t).size = t.size := by
  unfold putAll
  induction k with
  | zero => rfl
  | succ k ih => rw [List.range_succ, List.foldl_append]; simpa using ih
theorem putAll_get (lo k : Nat) (V : Nat → Value) (t : Array Value) (h : lo + k ≤ t.size) (s : Nat) : (putAll lo k V t)[s]? = if lo ≤ s ∧ s < lo + k then some (V (s - lo)) else t[s]? := by
  induction k with
  | zero => rw [if_neg (by omega)]; rfl
  | succ k ih =>
    have ih := ih (by omega)
    have e : putAll lo (k + 1) V t = (putAll lo k V t).setIfInBounds (lo + k) (V k) := by unfold putAll; rw [List.range_succ, List.foldl_append]; rfl
    rw [e]
    by_cases hs : lo + k = s
    · subst hs
      rw [Array.getElem?_setIfInBounds_self, if_pos (by rw [putAll_size]; omega), if_pos (by omega)]
      congr 2
      omega
    · rw [Array.getElem?_setIfInBounds_ne hs, ih]
      by_cases hc : lo ≤ s ∧ s < lo + k
      · rw [if_pos hc, if_pos (by omega)]
      · rw [if_neg hc, if_neg (by omega)]
theorem frame_all {a x : Act} {lo k hi : Nat} {V : Nat → Value} (h : FrameKept a lo hi x) (hhi : lo + k = hi + 1) (hlo : lo + k ≤ a.tmps.size) (hv : ∀ j, j < k → x.tmps[lo + j]?.getD undef = V j) : x = ⟨putAll lo k V a.tmps, a.defers⟩ := by
  obtain ⟨X, D⟩ := x
  obtain ⟨h1, h2, h3⟩ := h
  obtain rfl : D = a.defers := h1
  congr 1
  apply Array.ext_getElem?
  intro s
  rw [putAll_get _ _ _ _ hlo]
  by_cases hs : lo ≤ s ∧ s < lo + k
  · rw [if_pos hs]
    have := hv (s - lo) (by omega)
    rw [show lo + (s - lo) = s by omega] at this
    have hlt : s < X.size := by have : X.size = a.tmps.size := h2; omega
    rw [Array.getElem?_eq_getElem hlt] at this ⊢
    exact congrArg some this
  · rw [if_neg hs]
    exact h3 s (by omega)

theorem exec_append {P : Program} {o : Oper} {x : Act} {s1 s2 : Operand} {t : TypeId} {v1 v2 v : Value} {w w' : World} (ho : o.op = .call { callee := .builtin .append, args := #[s1, s2], argTypes := #[t, t] }) (h1 : x.eval s1 = v1) (h2 : x.eval s2 = v2)
    (hr : (Builtin.append_ #[t, t] o.type #[v1, v2]).run P w = .ok v w') : (execOp x.eval o).run P w = .ok (.value v) w' := by
  unfold execOp
  simp only [ho, resolve, invoke, builtin, Sem.run_bind, Sem.run_pure, Result.andThen_ok, List.map_toArray, List.map_cons, List.map_nil, h1, h2, hr]

theorem wp_region_sinks {P : Program} {ops : Array Oper} {Q : Exit → Act → World → Prop} (lo k hi m : Nat) (V : Nat → Value) (J : (Nat → Bool) → World → Prop) {id : Nat} {a : Act} {w : World}
    (hm : P.follows .mixedOrders = true) (he : early .any ops = true) (hsz : ops.size = k + m) (hm0 : 0 < m) (hsink : (List.range' k m).all (fun i => sinkL ops i) = true) (hhi : lo + k = hi + 1) (hlo : lo + k ≤ a.tmps.size)
    (h0 : J (fun _ => false) w.drew)
    (hops : ∀ i, i < k → ∀ (L : Nat → Bool) (x : Act) (w' : World), (∀ n, L n = true → ∀ j ∈ waitsFor .any ops n, L j = true) → FrameKept a lo hi x → L i = false → J L w' → (∀ j ∈ waitsFor .any ops i, L j = true) → (∀ j ∈ waitsFor .any ops i, j < k → x.tmps[lo + j]?.getD undef = V j) → wpOp P ops Q i (fun x' w'' => x' = x.put (some (lo + i)) (V i) ∧ J (fun j => if i = j then true else L j) w'') x w')
    (hrest : ∀ (L : Nat → Bool) (w' : World), (∀ j, j < k → L j = true) → J L w' → wpOps P ops Q (List.range' k m) ⟨putAll lo k V a.tmps, a.defers⟩ w') : (Code.region id ops true).wp P Q a w := by
  have hsk : ∀ i, k ≤ i → i < k + m → sinkL ops i = true := fun i h1 h2 => List.all_eq_true.1 hsink i (by rw [List.mem_range'_1]; omega)
  have hcl : ∀ (L : Nat → Bool) (i : Nat), (∀ i, L i = true → ∀ j ∈ waitsFor .any ops i, L j = true) → (∀ j ∈ waitsFor .any ops i, L j = true) → ∀ n, (fun j => if i = j then true else L j) n = true → ∀ j ∈ waitsFor .any ops n, (fun j => if i = j then true else L j) j = true := by
    intro L i h1 h2 n hn j hj
    by_cases hij : i = j
    · simp [hij]
    · simp only [if_neg hij]
      by_cases hin : i = n
      · subst hin; exact h2 j hj
      · simp only [if_neg hin] at hn
        exact h1 n hn j hj
  refine wp_region_kept (fun L x w => (∀ i, L i = true → ∀ j ∈ waitsFor .any ops i, L j = true) ∧
    (((∀ i, k ≤ i → L i = false) ∧ FrameKept a lo hi x ∧ Left k lo (fun i v => v = V i) L x ∧ J L w) ∨
      ∃ t, k < t ∧ t ≤ k + m ∧ (∀ i, i < t → L i = true) ∧ (∀ i, t ≤ i → L i = false) ∧ wpOps P ops Q (List.range' t (k + m - t)) x w)) hm he ?_ ?_ ?_
  · exact ⟨(fun _ h => by cases h), .inl ⟨fun _ _ => rfl, FrameKept.refl _ _ _, (fun _ _ h => by cases h), h0⟩⟩
  · intro L x w' i ⟨hc, hI⟩ hi hLi hw
    have hc' := hcl L i hc hw
    rcases hI with ⟨hno, hF, hL, hJ⟩ | ⟨t, ht1, ht2, hyes, hno, hO⟩
    · by_cases hik : i < k
      · refine wpOp_mono (fun x' w'' h => ?_) (hops i hik L x w' hc hF hLi hJ hw (fun j hj hjk => hL j hjk (hw j hj)))
        obtain ⟨rfl, hj'⟩ := h
        refine ⟨hc', .inl ⟨fun n hn => ?_, hF.put _ _ (by omega) (by omega), hL.next i (V i) (by rw [hF.2.1]; omega) (fun _ _ _ _ hu => hu) rfl, hj'⟩⟩
        simp only [if_neg (show ¬ i = n by omega)]
        exact hno n hn
      · have hall := sink_done (L := fun j => if i = j then true else L j) (hsk i (by omega) (by omega)) hc' (by simp)
        have hik2 : i = k := by
          rcases Nat.lt_or_ge k i with h | h
          · have := hall k h
            simp only [if_neg (show ¬ i = k by omega), hno k (Nat.le_refl _)] at this
            cases this
          · omega
        subst hik2
        have hallL : ∀ j, j < i → L j = true := fun j hj => by
          have := hall j hj
          simpa [show i ≠ j by omega] using this
        have hx := frame_all hF hhi hlo (fun j hj => hL j hj (hallL j hj))
        have hr := hrest L w' hallL hJ
        rw [← hx] at hr
        obtain ⟨m', rfl⟩ : ∃ m', m = m' + 1 := ⟨m - 1, by omega⟩
        rw [List.range'_succ, wpOps_cons] at hr
        refine wpOp_mono (fun x' w'' h => ⟨hc', .inr ⟨i + 1, by omega, by omega, fun j hj => ?_, fun j hj => ?_, ?_⟩⟩) hr
        · by_cases e : i = j
          · simp [e]
          · simp only [if_neg e]; exact hallL j (by omega)
        · simp only [if_neg (show ¬ i = j by omega)]; exact hno j (by omega)
        · rw [show i + (m' + 1) - (i + 1) = m' by omega]; exact h
    · have hit : i = t := by
        have h1 : t ≤ i := by
          rcases Nat.lt_or_ge i t with h | h
          · rw [hyes i h] at hLi; cases hLi
          · exact h
        rcases Nat.lt_or_ge t i with h | h
        · have := sink_done (L := fun j => if i = j then true else L j) (hsk i (by omega) (by omega)) hc' (by simp) t h
          simp only [if_neg (show ¬ i = t by omega), hno t (Nat.le_refl _)] at this
          cases this
        · omega
      subst hit
      obtain ⟨d, hd⟩ : ∃ d, k + m - i = d + 1 := ⟨k + m - i - 1, by omega⟩
      rw [hd, List.range'_succ, wpOps_cons] at hO
      refine wpOp_mono (fun x' w'' h => ⟨hc', .inr ⟨i + 1, by omega, by omega, fun j hj => ?_, fun j hj => ?_, ?_⟩⟩) hO
      · by_cases e : i = j
        · simp [e]
        · simp only [if_neg e]; exact hyes j (by omega)
      · simp only [if_neg (show ¬ i = j by omega)]; exact hno j (by omega)
      · rw [show k + m - (i + 1) = d by omega]; exact h
  · intro L x w' ⟨_, hI⟩ hall
    rcases hI with ⟨hno, _⟩ | ⟨t, ht1, ht2, _, hno, hO⟩
    · have := hall k (by omega)
      rw [hno k (Nat.le_refl _)] at this
      cases this
    · have e : t = k + m := by
        rcases Nat.lt_or_ge t (k + m) with h | h
        · have := hall t (by omega)
          rw [hno t (Nat.le_refl _)] at this
          cases this
        · omega
      subst e
      rw [Nat.sub_self] at hO
      exact hO
end Go.Proofs.YtdibeieiogagoaaGreatDoor

namespace Go.Proofs.YtdibeieiogagoaaGreatDoor
open Go.RowKit

/-- The numbers that a disk keeps for its crash, as an argument. -/
theorem DiskIs.keeps {w : World} {g gn gs cn cs : Nat} {vd : Value} {p : Option Addr} {m c : Nat} {S : DS} (h : DiskIs w g gn gs cn cs vd (.slice p m c) S) : S.keep.length = m ∧ IntsD w p S.keep ∧ FarInts p S.keep [g, gn, gs] := by
  have ha := h.apart
  simp only [List.nodup_cons, List.mem_cons, List.mem_append, not_or] at ha
  have hl : S.keep.length = m := by
    rcases h.keep.2 with ⟨e, e2⟩ | ⟨_, _, _, e, _⟩
    · injection e with _ e _; omega
    · injection e with _ e _; omega
  refine ⟨hl, ?_, ?_⟩
  · intro hp
    obtain ⟨gk, cap, e, _, hlt⟩ := h.keep.form hp
    injection e with e1 e2 e3
    subst e1 e2 e3
    refine ⟨gk, 0, rfl, hlt, fun j x hx => ?_⟩
    rw [Nat.zero_add]
    exact row_cell (by rw [hl] at *; exact h.keep) (by rw [List.getElem?_map, hx]; rfl)
  · intro hp a e hm
    subst e
    simp only [List.mem_cons, List.not_mem_nil, or_false] at hm
    rcases hm with hm | hm | hm
    · exact ha.1.2.2.2 (by rw [← hm]; simp [Value.ownBlock])
    · exact ha.2.1.2.2 (by rw [← hm]; simp [Value.ownBlock])
    · exact ha.2.2.1.2 (by rw [← hm]; simp [Value.ownBlock])

set_option maxRecDepth 100000 in
set_option maxHeartbeats 1000000 in
theorem dfails_any {w : World} {O : List Nat} {g : Nat} {S : DS} (h : DiskAt w O g S) (hok : S.Ok) (hon : S.on = true) (hlb : S.left ≤ 9223372036854775807) :
    Calls Tryz.prog 115 #[.pointer (some ⟨g, 0, none⟩)] w fun e w' => e = .returned (.bool S.fails) ∧ Turns O g S.failed w w' := by
  obtain ⟨gn, gs, cn, cs, vd, vk, rfl, h⟩ := h
  obtain ⟨p, c, rfl, _⟩ := row_slice h.keep
  have H := Lib.hid h
  have c5 := h.blk.cell 5
  have c6 := h.blk.cell 6
  have c7 := h.blk.cell 7
  have f6 := h.blk.frozen 6
  have hl := h.blk.lt
  simp at c5 c6 c7
  by_cases ha : S.armed = true
  · rw [ha] at c5
    by_cases h0 : 0 < S.left
    · have R1 : S.fails = false := by unfold DS.fails; simp; omega
      have R2 : S.failed = { S with left := S.left - 1 } := by unfold DS.failed; rw [if_pos ha, if_pos h0]
      rw [R1, R2]
      obtain ⟨n, hn⟩ : ∃ n : Int, n = (S.left : Int) := ⟨_, rfl⟩
      have HN := Lib.hid hn
      have hn0 : 0 < n := by omega
      have hn1 : n ≤ 9223372036854775807 := by omega
      rw [← hn] at c6
      clear R1 R2 h hn h0 ha hon hlb
      go_enter Tryz.func115, Tryz.ntmps115
      go_wp2
      go_ret
      refine ⟨rfl, _, ⟨gn, gs, cn, cs, vd, _, rfl, H.out.put_plain S.on S.armed S.writes (S.left - 1) _ ?_ ((Keep.refl _ _).put (.inl (by simp)) _ _)⟩, fun b hb => .inl hb, (Keep.refl _ _).put (.inl (by simp)) _ _⟩
      have hb := H.out.blk.put 6 (.int .i64 (n - 1))
      have e : n - 1 = ((S.left - 1 : Nat) : Int) := by have := HN.out; omega
      rw [e] at hb ⊢
      exact hb
    · have hz : S.left = 0 := by omega
      have R1 : S.fails = true := by unfold DS.fails; simp [ha, hz]
      have R2 : S.failed = S.crash S.keep := by unfold DS.failed; rw [if_pos ha, if_neg h0]
      rw [R1, R2]
      obtain ⟨k1, k2, k3⟩ := h.keeps
      have HC := Lib.hid (dcrash_on p S.keep.length c S.keep h hok hon rfl k2 k3)
      rw [hz] at c6
      clear R1 R2 h h0 hz k1 k2 k3 hok hlb hon
      go_enter Tryz.func115, Tryz.ntmps115
      go_wp2_with (go_at_call 33; refine HC.out.mono ?_; rintro e w1 ⟨rfl, hT⟩)
      go_ret
      exact ⟨rfl, hT⟩
  · have R1 : S.fails = false := by unfold DS.fails; simp [ha]
    have R2 : S.failed = S := by unfold DS.failed; rw [if_neg ha]
    rw [R1, R2]
    have hf : S.armed = false := by simpa using ha
    rw [hf] at c5
    clear R1 R2 h ha hf hok hlb hon
    go_enter Tryz.func115, Tryz.ntmps115
    go_wp2
    go_ret
    exact ⟨rfl, Turns.refl ⟨gn, gs, cn, cs, vd, _, rfl, H.out⟩⟩

/-- A sector written. -/
theorem now_is {w : World} {g gn gs cn cs : Nat} {vd vk : Value} {S : DS} (h : DiskIs w g gn gs cn cs vd vk S) (i : Nat) (data : ByteArray) :
    DiskIs (w.setCell ⟨gn, i, none⟩ (.string data)) g gn gs cn cs vd vk { S with now := S.now.set i data } := by
  have ha := h.apart
  simp only [List.nodup_cons, List.mem_cons, List.mem_append, not_or] at ha
  have e : (S.now.set i data).length = S.now.length := by simp
  refine ⟨?_, ?_, row_far h.safe ?_ _, row_far h.dirty ?_ _, row_far h.keep ?_ _, h.apart⟩
  · show Blk _ g _ #[.slice (some ⟨gn, 0, none⟩) (S.now.set i data).length cn, _, _, _, _, _, _, _]
    rw [e]
    exact h.blk.far (by exact ha.1.1) _
  · show World.ownsRow _ 0 _ 1 (.slice (some ⟨gn, 0, none⟩) (S.now.set i data).length cn) (S.now.set i data).length ((S.now.set i data).map Value.string)
    rw [e, List.map_set]
    exact row_put h.now _
  · intro e; cases e; exact ha.2.1.1 rfl
  · intro e; exact ha.2.1.2.1 (by simp [e])
  · intro e; exact ha.2.1.2.2 (by simp [e])
/-- A write that is not safe yet. -/
theorem put_is {w wf : World} {g gn gs cn cs gd cap : Nat} {vd vk : Value} {S : DS} (h : DiskIs w g gn gs cn cs vd vk S) (x : Nat × ByteArray) (hk : Keep vd.ownBlock.toList w wf)
    (hown : wf.ownsRow 0 68 2 (.slice (some ⟨gd, 0, none⟩) (S.dirty.length + 1) cap) (S.dirty.length + 1) (flatW S.dirty ++ [.int .i64 ((x.1 : Nat) : Int), .string x.2])) (hor : vd.ownBlock = some gd ∨ w.heap.size ≤ gd) :
    DiskIs ((wf.setCell ⟨g, 2, none⟩ (.slice (some ⟨gd, 0, none⟩) (S.dirty.length + 1) cap)).setCell ⟨g, 4, none⟩ (.int .i64 ((S.writes : Int) + 1))) g gn gs cn cs (.slice (some ⟨gd, 0, none⟩) (S.dirty.length + 1) cap) vk { S with dirty := S.dirty ++ [x], writes := S.writes + 1 } := by
  have ha := h.apart
  simp only [List.nodup_cons, List.mem_cons, List.mem_append, not_or] at ha
  have hgd : ∀ b, b < w.heap.size → b ∉ vd.ownBlock.toList → b ≠ gd := by
    intro b hb hn e
    subst e
    rcases hor with hor | hor
    · exact hn (by simp [hor])
    · omega
  have hgg : g ≠ gd := hgd g h.blk.lt ha.1.2.2.1
  have hb : Blk wf g 84 #[.slice (some ⟨gn, 0, none⟩) S.now.length cn, .slice (some ⟨gs, 0, none⟩) S.safe.length cs, vd, .bool S.on, .int .i64 (S.writes : Int), .bool S.armed, .int .i64 (S.left : Int), vk] :=
    (hk.block g h.blk.lt ha.1.2.2.1).trans h.blk
  have far : ∀ {v : Value} {e : TypeId} {size n : Nat} {xs : List Value} (u1 u2 : Value), wf.ownsRow 0 e size v n xs → v.ownBlock ≠ some g → ((wf.setCell ⟨g, 2, none⟩ u1).setCell ⟨g, 4, none⟩ u2).ownsRow 0 e size v n xs :=
    fun u1 u2 hr hn => row_far (row_far hr hn _) hn _
  have hdis : ∀ b ∈ vk.ownBlock.toList, b ∉ vd.ownBlock.toList := by
    intro b hb hd
    have := ha.2.2.2
    rw [List.nodup_append] at this
    exact this.2.2 b hd b hb rfl
  refine ⟨?_, far _ _ (row_keep h.now hk ?_) ?_, far _ _ (row_keep h.safe hk ?_) ?_, ?_, far _ _ (row_keep h.keep hk ?_) ?_, ?_⟩
  · have := (hb.put 2 (.slice (some ⟨gd, 0, none⟩) (S.dirty.length + 1) cap)).put 4 (.int .i64 ((S.writes : Int) + 1))
    show Blk _ g _ #[_, _, _, _, .int .i64 ((S.writes + 1 : Nat) : Int), _, _, _]
    rw [show ((S.writes + 1 : Nat) : Int) = (S.writes : Int) + 1 by omega]
    exact this
  · intro k e hm; cases e; exact ha.2.1.2.1 hm
  · intro e; cases e; exact ha.1.1 rfl
  · intro k e hm; cases e; exact ha.2.2.1.1 hm
  · intro e; cases e; exact ha.1.2.1 rfl
  · show World.ownsRow _ 0 _ 2 _ (S.dirty ++ [x]).length (flatW (S.dirty ++ [x]))
    rw [List.length_append, List.length_singleton, flatW_snoc]
    exact far _ _ hown (by intro e; cases e; exact hgg rfl)
  · intro k e hm; exact hdis k (by simp [e]) hm
  · intro e; exact ha.1.2.2.2 (by simp [e])
  · have n1 := hgd gn (row_lt' h.now (by simp [Value.ownBlock])) ha.2.1.2.1
    have n2 := hgd gs (row_lt' h.safe (by simp [Value.ownBlock])) ha.2.2.1.1
    simp only [List.nodup_cons, List.mem_cons, not_or, Value.ownBlock, Option.toList_some, List.singleton_append]
    refine ⟨⟨ha.1.1, ha.1.2.1, hgg, ha.1.2.2.2⟩, ⟨ha.2.1.1, n1, ha.2.1.2.2⟩, ⟨n2, ha.2.2.1.2⟩, ?_, ?_⟩
    · intro hm
      exact hgd gd (row_lt' h.keep hm) (hdis gd hm) rfl
    · exact (List.nodup_append.1 ha.2.2.2).2.1

set_option maxRecDepth 100000 in
set_option maxHeartbeats 4000000 in
theorem dput_any {w : World} {g gn gs cn cs : Nat} {vd vk : Value} {S : DS} (i : Nat) (data : ByteArray) (h : DiskIs w g gn gs cn cs vd vk S) (hok : S.Ok) (hon : S.on = true) (hi : i < S.now.length) (hd : data.size = 256) (hlb : S.left ≤ 9223372036854775807) (hwb : S.writes < 1000000000000) (hdb : S.dirty.length < 1000000000000) :
    Calls Tryz.prog 72 #[.pointer (some ⟨g, 0, none⟩), .agg #[.int .i64 (i : Int), .string data]] w fun e w' => e = .returned (.int .i64 (if (S.put i data).fails then 14 else 0)) ∧ Turns (g :: gn :: gs :: (vd.ownBlock.toList ++ vk.ownBlock.toList)) g (S.put i data).failed w w' := by
  obtain ⟨pd, cd, rfl, _⟩ := row_slice h.dirty
  obtain ⟨ee, hee⟩ : ∃ ee : Int, ee = if (S.put i data).fails then 14 else 0 := ⟨_, rfl⟩
  rw [← hee]
  have HEE := Lib.hid hee
  clear hee
  have HH : Hid (∀ W : World, DiskIs W g gn gs cn cs (.slice pd S.dirty.length cd) vk S → Calls Tryz.prog 114 #[.pointer (some ⟨g, 0, none⟩), .int .i64 (i : Int)] W fun e w' => e = .returned (.bool true) ∧ W = w') := Lib.hid (fun W hW => by
    have := dhas_any (w := W) (S := S) (i : Int) ⟨gn, gs, cn, cs, _, vk, rfl, hW⟩
    rwa [show decide (0 ≤ (i : Int) ∧ (i : Int) < (S.now.length : Int)) = true by simpa using hi] at this)
  have H := Lib.hid h
  have HOK := Lib.hid hok
  have HD : Hid (data.size ≤ 281474976710656) := Lib.hid (by omega)
  have hdI : (data.size : Int) = 256 := by omega
  have HI := Lib.hid hi
  clear h hok hi hd
  go_enter Tryz.func72, Tryz.ntmps72
  go_wp2_with fail
  refine (HH.out _ (H.out.kept (fun b hb => Below.heap_alloc _ _ _ (H.out.lt hb)))).mono ?_
  rintro e w1 ⟨rfl, rfl⟩
  go_wp2_with fail
  refine (clone_any data _ HD.out).mono ?_
  rintro e w2 ⟨rfl, hb2⟩
  have bx : Blk w2 w.heap.size 68 #[.int .i64 (i : Int), .string data] := (Blk.new w _ _).below hb2 (by simp)
  have kx : Keep [] w w2 := ((Keep.refl [] w).alloc _).below_in hb2
  have x1 := bx.cell 1
  have p1 := bx.frozen 1
  simp at x1
  go_upto_region 6 with fail
  obtain ⟨W, hW⟩ : ∃ W, W = w2.setCell ⟨w.heap.size, 1, none⟩ (.string data) := ⟨_, rfl⟩
  rw [← hW]
  have bW : Blk W w.heap.size 68 #[.int .i64 (i : Int), .string data] := by rw [hW]; exact bx.put 1 _
  have kW : Keep [] w W := by rw [hW]; exact kx.put (.inr (Nat.le_refl _)) _ _
  have HW0 : Hid (DiskIs W g gn gs cn cs (.slice pd S.dirty.length cd) vk S) := Lib.hid (H.out.kept (fun b hb => kW.block b (H.out.lt hb) (by simp)))
  have HBW := Lib.hid bW
  have HKW := Lib.hid kW
  have e0 := bW.cell 0
  have e1 := bW.cell 1
  simp at e0 e1
  have g0 := HW0.out.blk.cell 0
  simp at g0
  have q0 := row_cell HW0.out.now (i := i) (u := .string (S.now.getD i .empty)) (by
    rw [List.getElem?_map, List.getD_eq_getElem?_getD, List.getElem?_eq_getElem HI.out]; rfl)
  have q1 := row_frozen HW0.out.now i
  obtain ⟨X, hX⟩ : ∃ X, X = S.now.getD i .empty := ⟨_, rfl⟩
  rw [← hX] at q0
  obtain ⟨n, hn⟩ : ∃ n, n = S.now.length := ⟨_, rfl⟩
  have hin : (i : Int) < (n : Int) := by have := HI.out; omega
  rw [← hn] at g0
  clear hX hn x1 p1 bx kx hb2 hW kW bW
  go_still_tail 9, (by kernel_rfl)
  change wpList _ _ _ _ _ W.drew
  go_upto_region 7 with fail
  clear e0 e1 g0 q0 q1 hin
  obtain ⟨W1, hW1⟩ : ∃ W1, W1 = W.setCell ⟨gn, i, none⟩ (.string data) := ⟨_, rfl⟩
  rw [← hW1]
  have HD1 : Hid (DiskIs W1 g gn gs cn cs (.slice pd S.dirty.length cd) vk { S with now := S.now.set i data }) := Lib.hid (by rw [hW1]; exact now_is HW0.out i data)
  have hgn : gn < w.heap.size := H.out.lt (by simp)
  have HB1 : Hid (Blk W1 w.heap.size 68 #[.int .i64 (i : Int), .string data]) := Lib.hid (by rw [hW1]; exact HBW.out.far (by show w.heap.size ≠ gn; omega) _)
  have HK1 : Hid (Keep [gn] w W1) := Lib.hid (by rw [hW1]; exact (HKW.out.mono (by simp)).put (.inl (by simp)) _ _)
  clear hW1 hgn
  obtain ⟨nd, hnd⟩ : ∃ nd, nd = S.dirty.length := ⟨_, rfl⟩
  obtain ⟨i0, hi0, hz0, hz1, hz2⟩ := info_parts clwrites_info
  have HE1 : Hid (World.ownsRow W1 0 68 2 (.slice pd nd cd) nd (flatW S.dirty)) := Lib.hid (by rw [hnd]; exact HD1.out.dirty)
  obtain ⟨gd, cap, Wf, hrun, hown, hgrow, hor, hlt⟩ := run_append_lies (P := Tryz.prog) (W1.drew.drew.alloc (.cells #[.int .i64 (i : Int), .string data] 68)) 82 82 0 68 i0 (.agg #[.int .i64 0, .string .empty]) 2 24 Tryz.underlying82 hi0 hz0 hz1 hz2 rfl (by omega)
    (.slice pd nd cd) nd (flatW S.dirty) ((row_kept HE1.out (fun _ _ => rfl) : World.ownsRow W1.drew.drew 0 68 2 (.slice pd nd cd) nd (flatW S.dirty)).alloc _) ⟨W1.heap.size, 0, none⟩ 1 1 [.int .i64 (i : Int), .string data] rfl
    (World.news_of_block (heap_alloc_new W1.drew.drew (.cells #[.int .i64 (i : Int), .string data] 68))) (by intro u hu; simp at hu; rcases hu with rfl | rfl <;> rfl) (by omega) (by rw [hnd]; unfold maxLen; omega) (by rw [hnd]; omega) (Nat.zero_le _) _ rfl
  have HRUN := Lib.hid hrun
  have HOWN := Lib.hid hown
  have HGR := Lib.hid hgrow
  have HOR := Lib.hid hor
  have hkf : Keep (Value.slice pd nd cd).ownBlock.toList W1 Wf := (((Keep.refl _ W1).drew.drew).alloc _).by_in hgrow (by intro g e; exact .inl (by simp [e]))
  have HKF := Lib.hid hkf
  have hb1 := HD1.out.blk
  have hdd := HD1.out.apart
  simp only [List.nodup_cons, List.mem_cons, List.mem_append, not_or] at hdd
  have hbx : w.heap.size ∉ (Value.slice pd nd cd).ownBlock.toList := by
    intro hm
    have := H.out.lt (b := w.heap.size) (by rw [← hnd]; simp only [List.mem_cons, List.mem_append]; exact .inr (.inr (.inr (.inl hm))))
    omega
  have hgx : g ∉ (Value.slice pd nd cd).ownBlock.toList := by rw [hnd]; exact hdd.1.2.2.1
  have HC : Hid (∀ w' : World, (w' = W1.drew.drew ∨ w' = W1.drew.drew.alloc (.cells #[.int .i64 (i : Int), .string data] 68) ∨ w' = Wf) →
      w'.cell? ⟨g, 2, none⟩ = some (.slice pd nd cd) ∧ w'.cell? ⟨w.heap.size, 0, none⟩ = some (.int .i64 (i : Int)) ∧ w'.cell? ⟨w.heap.size, 1, none⟩ = some (.string data)) := Lib.hid (by
    intro w' hw
    have hk : Keep (Value.slice pd nd cd).ownBlock.toList W1 w' := by
      rcases hw with rfl | rfl | rfl
      · exact (Keep.refl _ _).drew.drew
      · exact (Keep.refl _ _).drew.drew.alloc _
      · exact hkf
    have c2 := (show Blk w' g 84 _ from (hk.block g hb1.lt hgx).trans hb1).cell 2
    have k0 := (show Blk w' w.heap.size 68 _ from (hk.block _ HB1.out.lt hbx).trans HB1.out).cell 0
    have k1 := (show Blk w' w.heap.size 68 _ from (hk.block _ HB1.out.lt hbx).trans HB1.out).cell 1
    simp at c2 k0 k1
    rw [← hnd] at c2
    exact ⟨c2, k0, k1⟩)
  have HGX : Hid (g ∉ (Value.slice pd nd cd).ownBlock.toList) := Lib.hid hgx
  have HND := Lib.hid hnd
  clear hrun hown hgrow hor hkf hb1 hdd hbx hgx hnd
  refine wp_region_sinks 29 8 36 3 (fun | 0 => .pointer (some ⟨g, 0, none⟩) | 1 => .pointer (some ⟨g, 0, none⟩) | 2 => .pointer (some ⟨g, 0, none⟩) | 3 => .pointer (some ⟨g, 2, none⟩) | 4 => .slice pd nd cd | 5 => .agg #[.int .i64 (i : Int), .string data] | 6 => .slice (some ⟨W1.heap.size, 0, none⟩) 1 1 | _ => .slice (some ⟨gd, 0, none⟩) (nd + 1) cap)
    (fun L w' => w' = if L 7 then Wf else if L 6 then W1.drew.drew.alloc (.cells #[.int .i64 (i : Int), .string data] 68) else W1.drew.drew) (by kernel_rfl) (by kernel_rfl) rfl (by omega) (by kernel_rfl) rfl (by simp) rfl ?hops ?hrest
  case hops =>
    intro j hj L x w' hc hF hLj hJ hw hv
    have hJ3 : w' = W1.drew.drew ∨ w' = W1.drew.drew.alloc (.cells #[.int .i64 (i : Int), .string data] 68) ∨ w' = Wf := by
      rw [hJ]
      split
      · exact .inr (.inr rfl)
      · split
        · exact .inr (.inl rfl)
        · exact .inl rfl
    obtain ⟨k2, b0, b1⟩ := HC.out w' hJ3
    have HJ := Lib.hid hJ
    clear hJ3 hJ
    rcases (show j = 0 ∨ j = 1 ∨ j = 2 ∨ j = 3 ∨ j = 4 ∨ j = 5 ∨ j = 6 ∨ j = 7 by omega) with rfl | rfl | rfl | rfl | rfl | rfl | rfl | rfl
    · have t0 : x.tmps[0]?.getD undef = .pointer (some ⟨g, 0, none⟩) := by rw [hF.2.2 0 (by omega)]; rfl
      clear hw hv hF
      refine wpOp_value (v := .pointer (some ⟨g, 0, none⟩)) (w' := w') rfl rfl ?_ ⟨rfl, HJ.out⟩
      go_simp
    · have t0 : x.tmps[0]?.getD undef = .pointer (some ⟨g, 0, none⟩) := by rw [hF.2.2 0 (by omega)]; rfl
      clear hw hv hF
      refine wpOp_value (v := .pointer (some ⟨g, 0, none⟩)) (w' := w') rfl rfl ?_ ⟨rfl, HJ.out⟩
      go_simp
    · have t0 : x.tmps[30]?.getD undef = .pointer (some ⟨g, 0, none⟩) := hv 1 (of_decide_eq_true (by kernel_rfl)) (by omega)
      clear hw hv hF
      refine wpOp_value (v := .pointer (some ⟨g, 0, none⟩)) (w' := w') rfl rfl ?_ ⟨rfl, HJ.out⟩
      go_simp
    · have t0 : x.tmps[31]?.getD undef = .pointer (some ⟨g, 0, none⟩) := hv 2 (of_decide_eq_true (by kernel_rfl)) (by omega)
      clear hw hv hF
      refine wpOp_value (v := .pointer (some ⟨g, 2, none⟩)) (w' := w') rfl rfl ?_ ⟨rfl, HJ.out⟩
      go_simp
    · have t0 : x.tmps[32]?.getD undef = .pointer (some ⟨g, 2, none⟩) := hv 3 (of_decide_eq_true (by kernel_rfl)) (by omega)
      clear hw hv hF
      refine wpOp_value (v := .slice pd nd cd) (w' := w') rfl rfl ?_ ⟨rfl, HJ.out⟩
      go_simp
    · have t0 : x.tmps[3]?.getD undef = .pointer (some ⟨w.heap.size, 0, none⟩) := by rw [hF.2.2 3 (by omega)]; rfl
      clear hw hv hF
      refine wpOp_value (v := .agg #[.int .i64 (i : Int), .string data]) (w' := w') rfl rfl ?_ ⟨rfl, HJ.out⟩
      go_simp
    · have h7 : L 7 = false := by
        cases h : L 7 with
        | false => rfl
        | true => rw [hc 7 h 6 (of_decide_eq_true (by kernel_rfl))] at hLj; cases hLj
      have t0 : x.tmps[34]?.getD undef = .agg #[.int .i64 (i : Int), .string data] := hv 5 (of_decide_eq_true (by kernel_rfl)) (by omega)
      have hJ := HJ.out
      rw [h7, hLj] at hJ
      have hJ' : w' = W1.drew.drew := hJ
      subst hJ'
      clear hw hv hF hJ HJ
      refine wpOp_value (v := .slice (some ⟨W1.heap.size, 0, none⟩) 1 1) (w' := W1.drew.drew.alloc (.cells #[.int .i64 (i : Int), .string data] 68)) rfl rfl ?_ ⟨rfl, ?_⟩
      · go_simp
      · simp [h7]
    · have h6 : L 6 = true := hw 6 (of_decide_eq_true (by kernel_rfl))
      have t0 : x.tmps[33]?.getD undef = .slice pd nd cd := hv 4 (of_decide_eq_true (by kernel_rfl)) (by omega)
      have t1 : x.tmps[35]?.getD undef = .slice (some ⟨W1.heap.size, 0, none⟩) 1 1 := hv 6 (of_decide_eq_true (by kernel_rfl)) (by omega)
      have hJ := HJ.out
      rw [hLj, h6] at hJ
      have hJ' : w' = W1.drew.drew.alloc (.cells #[.int .i64 (i : Int), .string data] 68) := hJ
      subst hJ'
      refine wpOp_value (v := .slice (some ⟨gd, 0, none⟩) (nd + 1) cap) (w' := Wf) rfl rfl (exec_append rfl (by simpa [Act.eval] using t0) (by simpa [Act.eval] using t1) HRUN.out) ⟨rfl, by simp⟩
  case hrest =>
    intro L w' hL hJ
    rw [hL 7 (by omega)] at hJ
    have hJ' : w' = Wf := hJ
    subst hJ'
    clear hL hJ L
    obtain ⟨k2, _, _⟩ := HC.out w' (.inr (.inr rfl))
    have fg : w'.frozen? ⟨g, 2, none⟩ = false := (World.frozen?_of_block (a := ⟨g, 2, none⟩) (HKF.out.block g HD1.out.blk.lt HGX.out)).trans (HD1.out.blk.frozen 2)
    rw [show List.range' 8 3 = [8, 9, 10] from rfl]
    simp only [putAll, List.range, List.range.loop, List.foldl, Nat.reduceAdd, List.setIfInBounds_toArray, List.set_cons_succ, List.set_cons_zero]
    rw [wpOps_cons]
    refine wpOp_value (v := .pointer (some ⟨g, 0, none⟩)) (w' := w') rfl rfl (by go_simp) ?_
    rw [wpOps_cons]
    refine wpOp_value (v := .pointer (some ⟨g, 2, none⟩)) (w' := w') rfl rfl (by simp only [Act.put, List.setIfInBounds_toArray]; go_simp) ?_
    rw [wpOps_cons]
    refine wpOp_skip (w' := w'.setCell ⟨g, 2, none⟩ (.slice (some ⟨gd, 0, none⟩) (nd + 1) cap)) rfl rfl (by simp only [Act.put, List.setIfInBounds_toArray]; go_simp) ?_
    simp only [wpOps, Act.put, List.setIfInBounds_toArray]
    clear k2 fg
    obtain ⟨W2, hW2⟩ : ∃ W2, W2 = w'.setCell ⟨g, 2, none⟩ (.slice (some ⟨gd, 0, none⟩) (nd + 1) cap) := ⟨_, rfl⟩
    have b2 := (show Blk w' g 84 _ from (HKF.out.block g HD1.out.blk.lt HGX.out).trans HD1.out.blk).put 2 (.slice (some ⟨gd, 0, none⟩) (nd + 1) cap)
    rw [← hW2] at b2
    rw [← hW2]
    have k4 := b2.cell 4
    have f4 := b2.frozen 4
    simp at k4
    have HW2 := Lib.hid hW2
    clear b2 hW2
    go_upto_region 9 with fail
    have HD2 : Hid (DiskIs (W2.setCell ⟨g, 4, none⟩ (.int .i64 ((S.writes : Int) + 1))) g gn gs cn cs (.slice (some ⟨gd, 0, none⟩) (nd + 1) cap) vk (S.put i data)) := Lib.hid (by
      rw [HW2.out, HND.out]
      have h1 := HOWN.out
      have h2 := HOR.out
      have h3 := HKF.out
      rw [HND.out] at h1 h2 h3
      refine put_is HD1.out (i, data) h3 h1 ?_
      rcases h2 with h2 | h2
      · exact .inl h2
      · exact .inr (by rw [h2]; simp))
    have HKK : Hid (Keep (g :: gn :: gs :: ((Value.slice pd nd cd).ownBlock.toList ++ vk.ownBlock.toList)) w (W2.setCell ⟨g, 4, none⟩ (.int .i64 ((S.writes : Int) + 1)))) := Lib.hid (by
      rw [HW2.out]
      refine ((((HK1.out.mono ?_).trans HKF.out ?_).put (.inl (by simp)) _ _).put (.inl (by simp)) _ _)
      · intro b hb; rw [List.mem_singleton.1 hb]; exact .inl (by simp)
      · intro b hb; exact .inl (by simp only [List.mem_cons, List.mem_append]; exact .inr (.inr (.inr (.inl hb)))))
    have HGD : Hid (∀ b ∈ g :: gn :: gs :: ((Value.slice (some ⟨gd, 0, none⟩) (nd + 1) cap).ownBlock.toList ++ vk.ownBlock.toList), b ∈ g :: gn :: gs :: ((Value.slice pd nd cd).ownBlock.toList ++ vk.ownBlock.toList) ∨ w.heap.size ≤ b) := Lib.hid (by
      intro b hb
      simp only [List.mem_cons, List.mem_append] at hb ⊢
      rcases hb with hb | hb | hb | hb | hb
      · exact .inl (.inl hb)
      · exact .inl (.inr (.inl hb))
      · exact .inl (.inr (.inr (.inl hb)))
      · have hbg : b = gd := by simpa [Value.ownBlock] using hb
        rcases HOR.out with h2 | h2
        · exact .inl (.inr (.inr (.inr (.inl (by rw [hbg, h2]; simp)))))
        · right
          rw [hbg, h2]
          exact Nat.le_trans HK1.out.size (by simp)
      · exact .inl (.inr (.inr (.inr (.inr hb)))))
    obtain ⟨W3, hW3⟩ : ∃ W3, W3 = W2.setCell ⟨g, 4, none⟩ (.int .i64 ((S.writes : Int) + 1)) := ⟨_, rfl⟩
    rw [← hW3] at HD2 HKK
    rw [← hW3]
    clear hW3 HW2 k4 f4 HOWN HGR HOR HRUN HKF HC HE1 HB1 HD1
    have HFA := Lib.hid (dfails_any (w := W3) ⟨gn, gs, cn, cs, _, vk, rfl, HD2.out⟩ (HOK.out.put HI.out data) hon hlb)
    obtain ⟨bb, hbb⟩ : ∃ bb, bb = (S.put i data).fails := ⟨_, rfl⟩
    rw [← hbb] at HFA
    have HBB := Lib.hid hbb
    clear hbb
    have HND' := HND.out
    rw [HND'] at HKK HGD HFA
    clear HND'
    cases bb with
    | true =>
      go_wp2_with (go_at_call 115; refine HFA.out.mono ?_; rintro e w3 ⟨rfl, hT⟩)
      go_ret
      rw [HEE.out, ← HBB.out]
      obtain ⟨O3, t1, t2, t3⟩ := hT
      refine ⟨rfl, O3, t1, fun b hb => ?_, HKK.out.trans t3 HGD.out⟩
      rcases t2 b hb with h | h
      · exact HGD.out b h
      · exact .inr (by have := HKK.out.size; omega)
    | false =>
      go_wp2_with (go_at_call 115; refine HFA.out.mono ?_; rintro e w3 ⟨rfl, hT⟩)
      go_ret
      rw [HEE.out, ← HBB.out]
      obtain ⟨O3, t1, t2, t3⟩ := hT
      refine ⟨rfl, O3, t1, fun b hb => ?_, HKK.out.trans t3 HGD.out⟩
      rcases t2 b hb with h | h
      · exact HGD.out b h
      · exact .inr (by have := HKK.out.size; omega)
end Go.Proofs.YtdibeieiogagoaaGreatDoor
