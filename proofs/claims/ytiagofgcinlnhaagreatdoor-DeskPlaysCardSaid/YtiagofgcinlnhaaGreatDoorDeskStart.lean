/-
  DeskPlays' start: the desk as formatted, and the document's first state. No statement is proved here.
-/
import Derived.Test.YtiagofgcinlnhaaGreatDoorDeskGoCalls
import Derived.Test.YtiagofgcinlnhaaGreatDoorDeskIsD
import Derived.Test.YtiagofgcinlnhaaGreatDoorIntsView
namespace Go.Proofs.YtiagofgcinlnhaaGreatDoor
open Go.RowKit
structure Mat (N : Nat) (K : KD) (h : List ByteArray) (Hc : List Int) (s : DocS) : Prop where
  home : s.home = h
  ol : s.on.length = N - 111
  on : ∀ t : Nat, t < N - 111 → s.on.getD t .empty = K.F (t : Int)
  used : s.used = K.H
  was : s.was = Hc
section
variable {N : Nat} {K : KD} {h : List ByteArray} {Hc : List Int} {c : Nat} {s : DocS}
theorem Mat.pend (a : Mat N K h Hc s) (r : Go11 N K h Hc c) : pendT K = pendD s := by
  have hd := r.ok.dim
  unfold pendT pendD
  rw [r.ok.len, a.ol]
  refine List.filter_congr fun x hx => ?_
  have hx := rangeI_mem.1 hx
  obtain ⟨t, rfl⟩ : ∃ t : Nat, x = (t : Int) := ⟨x.toNat, by omega⟩
  have ho := a.on t (by omega)
  unfold dirtyP dirtyD
  rw [show ((t : Int)).toNat = t from rfl, ho, a.used, a.was]
  by_cases e : (t : Int) = 1
  · rw [if_pos e]
    have h1 : K.F (t : Int) = .empty := by
      rcases Classical.em (K.F (t : Int) = .empty) with q | q
      · exact q
      · exact absurd e (r.ok.used _ q).2.1
    rw [r.roomS, r.kept]
    refine decide_eq_decide.2 ⟨fun q => .inr ⟨e, fun z => q (by rw [z])⟩, fun q z => ?_⟩
    rcases q with q | ⟨_, q⟩
    · exact q h1
    · exact q (roomT_inj r.hok r.cok (by omega) (by omega) (bs_inj z))
  · rw [if_neg e]
    exact decide_eq_decide.2 ⟨.inl, fun q => q.resolve_right fun z => e z.1⟩
theorem Mat.is (a : Mat N K h Hc s) (r : Go11 N K h Hc c) : isD K s (N - 111) = true := by
  unfold isD
  rw [Bool.and_eq_true, Bool.and_eq_true]
  refine ⟨⟨decide_eq_true a.used.symm, decide_eq_true (a.pend r)⟩, decide_eq_true fun i hi => ?_⟩
  rw [r.get hi]
  unfold wantD homeG
  rw [a.on i hi, a.home]
theorem Mat.not (a : Mat N K h Hc s) {s' : DocS} (r : Go11 N K h Hc c) (hn : isD K s' (N - 111) = true) (i : Nat) (hi : i < N - 111) : wantD s i = wantD s' i ∧ s.used = s'.used ∧ pendD s = pendD s' := by
  unfold isD at hn
  rw [Bool.and_eq_true, Bool.and_eq_true] at hn
  obtain ⟨⟨h1, h2⟩, h3⟩ := hn
  have h3 := of_decide_eq_true h3 i hi
  rw [r.get hi] at h3
  refine ⟨?_, a.used.trans (of_decide_eq_true h1), (a.pend r).symm.trans (of_decide_eq_true h2)⟩
  rw [← h3]
  unfold wantD homeG
  rw [a.on i hi, a.home]
theorem getD_set {l : List ByteArray} {i j : Nat} {x : ByteArray} (hi : i < l.length) : (l.set i x).getD j .empty = if j = i then x else l.getD j .empty := by
  rw [List.getD_eq_getElem?_getD, List.getElem?_set, List.getD_eq_getElem?_getD]
  by_cases e : i = j
  · subst e
    rw [if_pos rfl, if_pos hi, if_pos rfl]
    rfl
  · rw [if_neg e, if_neg (fun q => e q.symm)]
theorem Mat.set (a : Mat N K h Hc s) {t : Nat} (ht : t < N - 111) {x : ByteArray} (h1 : (t : Int) ≠ 1) (hm : (t : Int) ∈ K.H) (hx : x.size = 256) : Mat N (setK K (t : Int) x) h Hc { s with on := s.on.set t x } := by
  have e : setK K (t : Int) x = { K with F := updF K.F t x } := by
    unfold setK
    rw [if_neg (by intro q; rcases q with q | q; exact h1 q; exact q hm), if_pos hx]
    rfl
  rw [e]
  refine ⟨a.home, by show (s.on.set t x).length = _; rw [List.length_set]; exact a.ol, fun u hu => ?_, a.used, a.was⟩
  show (s.on.set t x).getD u .empty = updF K.F t x (u : Int)
  rw [getD_set (by rw [a.ol]; exact ht)]
  unfold updF
  by_cases q : u = t
  · rw [if_pos q, if_pos (by omega)]
  · rw [if_neg q, if_neg (by omega)]
    exact a.on u hu
theorem Mat.new (a : Mat N K h Hc s) {k : Nat} (hk : k < N - 111) (x : ByteArray) : Mat N (newK K k x) h Hc { s with on := s.on.set k x, used := putL (k : Int) s.used } := by
  refine ⟨a.home, by show (s.on.set k x).length = _; rw [List.length_set]; exact a.ol, fun u hu => ?_, by show putL (k : Int) s.used = putL (k : Int) K.H; rw [a.used], a.was⟩
  show (s.on.set k x).getD u .empty = updF K.F k x (u : Int)
  rw [getD_set (by rw [a.ol]; exact hk)]
  unfold updF
  by_cases q : u = k
  · rw [if_pos q, if_pos (by omega)]
  · rw [if_neg q, if_neg (by omega)]
    exact a.on u hu
theorem Mat.use (a : Mat N K h Hc s) {H : List Int} {s' : DocS} (hs : s'.home = s.home ∧ s'.was = s.was ∧ s'.used = H ∧ s'.on.length = s.on.length) (ho : ∀ t : Nat, t < N - 111 → s'.on.getD t .empty = if (t : Int) ∈ H then s.on.getD t .empty else .empty) : Mat N (useK K H) h Hc s' := by
  refine ⟨hs.1.trans a.home, hs.2.2.2.trans a.ol, fun u hu => ?_, hs.2.2.1, hs.2.1.trans a.was⟩
  rw [ho u hu]
  show _ = keepF H K.F (u : Int)
  unfold keepF
  rw [a.on u hu]
def offD (s : DocS) : DocS := ⟨s.home, List.replicate s.on.length .empty, s.was, s.was⟩
theorem Mat.off (a : Mat N K h Hc s) {K' : KD} (hF : K'.F = fun _ => .empty) (hH : K'.H = Hc) : Mat N K' h Hc (offD s) := by
  refine ⟨a.home, by show (List.replicate _ _).length = _; rw [List.length_replicate]; exact a.ol, fun u hu => ?_, by rw [hH]; exact a.was, a.was⟩
  show (List.replicate s.on.length ByteArray.empty).getD u .empty = K'.F u
  rw [hF, List.getD_eq_getElem?_getD, List.getElem?_replicate]
  split <;> rfl
theorem Mat.told {K' : KD} {h' : List ByteArray} {Hc' : List Int} {c' : Nat} (a : Mat N K h Hc s) (r : Go11 N K h Hc c) (r' : Go11 N K' h' Hc' c') (hF : K'.F = fun _ => .empty) (hH : K'.H = Hc') (e : isD K' (offD s) (N - 111) = true) : Mat N K' h' Hc' (offD s) := by
  unfold isD at e
  rw [Bool.and_eq_true, Bool.and_eq_true] at e
  obtain ⟨⟨e1, -⟩, e3⟩ := e
  have e1 := of_decide_eq_true e1
  have e3 := of_decide_eq_true e3
  have h1 : h' = h := by
    have l1 := r'.hlen
    have l2 := r.hlen
    refine List.ext_getElem? fun i => ?_
    rcases Nat.lt_or_ge i (N - 111) with hi | hi
    · have := e3 i hi
      rw [r'.get hi] at this
      unfold homeG wantD offD at this
      rw [hF] at this
      have hz : (List.replicate s.on.length ByteArray.empty).getD i .empty = .empty := by
        rw [List.getD_eq_getElem?_getD, List.getElem?_replicate]
        split <;> rfl
      simp only [hz, ne_eq, not_true_eq_false, if_false] at this
      rw [a.home] at this
      rw [List.getElem?_eq_getElem (by omega), List.getElem?_eq_getElem (by omega)]
      rw [List.getD_eq_getElem?_getD, List.getD_eq_getElem?_getD, List.getElem?_eq_getElem (by omega), List.getElem?_eq_getElem (by omega)] at this
      exact congrArg some this
    · rw [List.getElem?_eq_none (by omega), List.getElem?_eq_none (by omega)]
  have h2 : Hc' = Hc := by rw [← hH, e1]; exact a.was
  rw [h1, h2]
  exact a.off hF (by rw [hH, h2])
theorem layTo_home (hh o : List ByteArray) (j i : Nat) (hi : i < hh.length) : (layTo hh o j).1[i]? = if i < j ∧ o.getD i .empty ≠ .empty then some (o.getD i .empty) else hh[i]? := by
  induction j with
  | zero => rw [if_neg (by omega)]; rfl
  | succ j ih =>
    unfold layTo
    by_cases e : o.getD j .empty ≠ .empty
    · rw [if_pos e]
      show ((layTo hh o j).1.set j (o.getD j .empty))[i]? = _
      rw [List.getElem?_set, (layTo_len hh o j).1]
      by_cases q : j = i
      · subst q
        rw [if_pos rfl, if_pos hi, if_pos ⟨by omega, e⟩]
      · rw [if_neg q, ih]
        by_cases z : i < j ∧ o.getD i .empty ≠ .empty
        · rw [if_pos z, if_pos ⟨by omega, z.2⟩]
        · rw [if_neg z, if_neg fun y => z ⟨by omega, y.2⟩]
    · rw [if_neg e, ih]
      by_cases z : i < j ∧ o.getD i .empty ≠ .empty
      · rw [if_pos z, if_pos ⟨by omega, z.2⟩]
      · rw [if_neg z, if_neg fun y => z ⟨by
          rcases Nat.lt_or_ge i j with q | q
          · exact q
          · have : i = j := by omega
            rw [this] at y
            exact absurd y.2 e, y.2⟩]
theorem layTo_onv (hh o : List ByteArray) (j i : Nat) : (layTo hh o j).2.getD i .empty = if i < j then .empty else o.getD i .empty := by
  induction j with
  | zero => rw [if_neg (by omega)]; rfl
  | succ j ih =>
    unfold layTo
    by_cases e : o.getD j .empty ≠ .empty
    · rw [if_pos e]
      show ((layTo hh o j).2.set j .empty).getD i .empty = _
      rcases Nat.lt_or_ge j (layTo hh o j).2.length with hj | hj
      · rw [getD_set hj]
        by_cases q : i = j
        · rw [if_pos q, if_pos (by omega)]
        · rw [if_neg q, ih]
          by_cases z : i < j
          · rw [if_pos z, if_pos (by omega)]
          · rw [if_neg z, if_neg (by omega)]
      · rw [(layTo_len hh o j).2] at hj
        rw [List.getD_eq_getElem?_getD, List.getElem?_eq_none hj] at e
        exact absurd rfl e
    · rw [if_neg e, ih]
      by_cases q : i = j
      · subst q
        rw [if_neg (by omega), if_pos (by omega)]
        exact Decidable.not_not.1 e
      · by_cases z : i < j
        · rw [if_pos z, if_pos (by omega)]
        · rw [if_neg z, if_neg (by omega)]
theorem Mat.sync (a : Mat N K h Hc s) (r : Go11 N K h Hc c) {K' : KD} (hF : K'.F = fun _ => .empty) (hH : K'.H = K.H) : Mat N K' (setI h (pendL K)) K.H (syncD s) := by
  have hd := r.ok.dim
  have hl := r.hlen
  have hhl : s.home.length = N - 111 := by rw [a.home]; exact hl
  have hol : s.on.length = N - 111 := a.ol
  refine ⟨?_, ?_, fun u hu => ?_, by rw [hH]; exact a.used, a.used⟩
  · refine List.ext_getElem? fun i => ?_
    show ((layTo s.home s.on s.on.length).1.set 1 (bs (roomT s.home.length s.used)))[i]? = _
    rcases Nat.lt_or_ge i (N - 111) with hi | hi
    · rw [List.getElem?_set, (layTo_len s.home s.on _).1, setI_pend hl hi, a.pend r, a.used, hhl, ← r.roomS]
      by_cases q : 1 = i
      · subst q
        rw [if_pos rfl, if_pos (by omega)]
        have hsec := r.sector
        unfold sector1 at hsec
        rw [List.getD_eq_getElem?_getD, setI_pend hl (by omega), a.pend r] at hsec
        by_cases z : ((1 : Nat) : Int) ∈ pendD s
        · rw [if_pos z]
          show _ = some (gF K 1)
          unfold gF
          rw [if_pos rfl]
        · rw [if_neg z] at hsec ⊢
          have hlt : 1 < h.length := by omega
          rw [List.getElem?_eq_getElem hlt] at hsec ⊢
          exact congrArg some hsec.symm
      · rw [if_neg q, layTo_home _ _ _ _ (by omega), hol, a.on i hi, a.home]
        have hi1 : ((i : Nat) : Int) ≠ 1 := by omega
        by_cases z : K.F (i : Int) = .empty
        · rw [if_neg fun y => y.2 z, if_neg]
          intro y
          unfold pendD at y
          rw [List.mem_filter] at y
          have y := of_decide_eq_true y.2
          rw [show ((i : Nat) : Int).toNat = i from rfl, a.on i hi] at y
          rcases y with y | y
          · exact y z
          · exact hi1 y.1
        · rw [if_pos ⟨hi, z⟩, if_pos]
          · unfold gF
            rw [if_neg hi1]
          · unfold pendD
            rw [List.mem_filter, rangeI_mem]
            refine ⟨by omega, decide_eq_true (.inl ?_)⟩
            rw [show ((i : Nat) : Int).toNat = i from rfl, a.on i hi]
            exact z
    · rw [List.getElem?_eq_none (by rw [List.length_set, (layTo_len _ _ _).1]; omega), List.getElem?_eq_none (by rw [setI_length]; omega)]
  · show (layTo s.home s.on s.on.length).2.length = _
    rw [(layTo_len _ _ _).2]
    exact hol
  · show (layTo s.home s.on s.on.length).2.getD u .empty = _
    rw [layTo_onv, if_pos (by omega), hF]
end
def heldOf (w : World) (Q : List Nat) : List MK := Q.filterMap fun b => (w.heap[b]?).map (MK.held b)
theorem heldOf_mem {w : World} {Q : List Nat} {b : Nat} {o : Obj} (hb : b ∈ Q) (ho : w.heap[b]? = some o) : MK.held b o ∈ heldOf w Q := List.mem_filterMap.2 ⟨b, hb, by rw [ho]; rfl⟩
theorem heldOf_get {w : World} {Q : List Nat} {M : MK} (h : M ∈ heldOf w Q) : ∃ b o, b ∈ Q ∧ w.heap[b]? = some o ∧ M = .held b o := by
  obtain ⟨b, hb, e⟩ := List.mem_filterMap.1 h
  cases ho : w.heap[b]? with
  | none => rw [ho] at e; cases e
  | some o => rw [ho] at e; injection e with e; exact ⟨b, o, hb, ho, e.symm⟩
theorem heldOf_same {w w' : World} {Q : List Nat} (h : ∀ b ∈ Q, w'.heap[b]? = w.heap[b]?) : heldOf w' Q = heldOf w Q := by
  unfold heldOf
  induction Q with
  | nil => rfl
  | cons b r ih =>
    rw [List.filterMap_cons, List.filterMap_cons, h b (by simp), ih fun b hb => h b (by simp [hb])]
theorem block_lt {w : World} {b : Nat} (h : b < w.heap.size) : ∃ o, w.heap[b]? = some o := ⟨w.heap[b], Array.getElem?_eq_getElem h⟩
def DQ (w0 w : World) (g gd m N : Nat) (K : KD) (Q : List Nat) (Ms : List MK) : Prop := DMk w0 w g gd m N K (heldOf w Q ++ Ms) ∧ ∀ b ∈ Q, b < w.heap.size
section
variable {w0 w w' : World} {g gd m N : Nat} {K K' : KD} {S : DS} {Q Q' : List Nat} {Ms Ms' : List MK} {x y : Nat} {B : Nat} {s : DocS} {vh vo vu vw : Value}
theorem DMk.size {g m : Nat} {K : KD} (t : DMk w0 w' g gd m N K (heldOf w Q ++ Ms)) (hq : ∀ b ∈ Q, b < w.heap.size) : (∀ b ∈ Q, w'.heap[b]? = w.heap[b]?) ∧ ∀ b ∈ Q, b < w'.heap.size := by
  have key : ∀ b ∈ Q, w'.heap[b]? = w.heap[b]? ∧ b < w'.heap.size := fun b hb => by
    obtain ⟨o, ho⟩ := block_lt (hq b hb)
    have := t.held (List.mem_append_left _ (heldOf_mem hb ho))
    exact ⟨this.trans ho.symm, heap_lt this⟩
  exact ⟨fun b hb => (key b hb).1, fun b hb => (key b hb).2⟩
theorem DQ.of {g m : Nat} {K : KD} (t : DMk w0 w' g gd m N K (heldOf w Q ++ Ms)) (hq : ∀ b ∈ Q, b < w.heap.size) : DQ w0 w' g gd m N K Q Ms ∧ ∀ b ∈ Q, w'.heap[b]? = w.heap[b]? := by
  obtain ⟨h1, h2⟩ := t.size hq
  refine ⟨⟨?_, h2⟩, h1⟩
  rw [heldOf_same h1]
  exact t
theorem DQ.of_mark {g m : Nat} {K : KD} {M : MK} (t : DMk w0 w' g gd m N K (M :: (heldOf w Q ++ Ms))) (hq : ∀ b ∈ Q, b < w.heap.size) : DQ w0 w' g gd m N K Q (M :: Ms) ∧ ∀ b ∈ Q, w'.heap[b]? = w.heap[b]? :=
  DQ.of (t.less fun M' h => by
    rw [List.mem_append, List.mem_cons] at h
    rw [List.mem_cons, List.mem_append]
    rcases h with h | h | h
    · exact .inr (.inl h)
    · exact .inl h
    · exact .inr (.inr h)) hq
theorem DQ.less (t : DQ w0 w g gd m N K Q Ms) (hQ : ∀ b ∈ Q', b ∈ Q) (hM : ∀ M ∈ Ms', M ∈ Ms) : DQ w0 w g gd m N K Q' Ms' := by
  refine ⟨t.1.less fun M h => ?_, fun b hb => t.2 b (hQ b hb)⟩
  rw [List.mem_append] at h ⊢
  rcases h with h | h
  · obtain ⟨b, o, h1, h2, rfl⟩ := heldOf_get h
    exact .inl (heldOf_mem (hQ b h1) h2)
  · exact .inr (hM M h)
theorem DQ.more (t : DQ w0 w g gd m N K Q Ms) (hb : Below w.heap.size w w') (hQ : ∀ b ∈ Q', b ∈ Q ∨ (w.heap.size ≤ b ∧ b < w'.heap.size)) : DQ w0 w' g gd m N K Q' Ms := by
  obtain ⟨P, h1, h2, h3, h4⟩ := t.1
  refine ⟨⟨P, h1.below hb, h2, h3.trans (hb.mono h3.size), fun M hM => ?_⟩, fun b hq => ?_⟩
  · rw [List.mem_append] at hM
    rcases hM with hM | hM
    · obtain ⟨b, o, k1, k2, rfl⟩ := heldOf_get hM
      rcases hQ b k1 with h | ⟨h, _⟩
      · obtain ⟨o', ho'⟩ := block_lt (t.2 b h)
        exact ⟨(h4 _ (List.mem_append_left _ (heldOf_mem h ho'))).1, k2⟩
      · exact ⟨fun hm => by have := h1.lt hm; omega, k2⟩
    · exact (h4 M (List.mem_append_right _ hM)).turn (fun b hb => .inl hb) (Keep.of_below hb) (Nat.le_refl _)
  · rcases hQ b hq with h | ⟨_, h⟩
    · exact Nat.lt_of_lt_of_le (t.2 b h) hb.size
    · exact h
theorem DQ.below (t : DQ w0 w g gd m N K Q Ms) (hb : Below w.heap.size w w') : DQ w0 w' g gd m N K Q Ms := t.more hb fun _ h => .inl h
theorem DQ.store {b : Nat} {cur : Array Value} {e : TypeId} (t : DQ w0 w g gd m N K Q Ms) (hb : b ∈ Q) (ho : w.heap[b]? = some (.cells cur e (0, 0))) (he : e ≠ 92 ∧ e ≠ 118) (hB : w0.heap.size ≤ b) (hk : Keep [b] w w') (hMs : ∀ M ∈ Ms, ∃ st sy F H, M = .mark st sy F H) : DQ w0 w' g gd m N K Q Ms := by
  obtain ⟨P, h1, h2, h3, h4⟩ := t.1
  have hbP : b ∉ P := (h4 _ (List.mem_append_left _ (heldOf_mem hb ho))).1
  have hn : ∀ b', b' ≠ b → b' ∉ [b] := fun b' h hm => h (List.mem_singleton.1 hm)
  refine ⟨⟨P, h1.kept (fun b' hb' => hk.block b' (h1.lt hb') (hn _ fun q => hbP (q ▸ hb'))), h2, h3.trans (hk.below (fun b' hb' => by rw [List.mem_singleton.1 hb']; exact hB) h3.size), fun M hM => ?_⟩, fun b' hb' => Nat.lt_of_lt_of_le (t.2 b' hb') hk.size⟩
  rw [List.mem_append] at hM
  rcases hM with hM | hM
  · obtain ⟨b', o, k1, k2, rfl⟩ := heldOf_get hM
    obtain ⟨o', ho'⟩ := block_lt (t.2 b' k1)
    exact ⟨(h4 _ (List.mem_append_left _ (heldOf_mem k1 ho'))).1, k2⟩
  · have h := h4 M (List.mem_append_right _ hM)
    cases M with
    | mark st sy F H =>
      obtain ⟨mb, rb, a1, a2, a3, a4, a5, a6⟩ := h
      have n1 : st ≠ b := fun q => by
        have a4 : w.heap[st]? = _ := a4
        rw [q, ho] at a4
        injection a4 with a4
        injection a4 with _ a4
        exact he.1 a4
      have n2 : mb ≠ b := fun q => by
        obtain ⟨D, ⟨es, clock, q1, _⟩, _⟩ := a5
        rw [q, ho] at q1
        injection q1 with q1
        cases q1
      have n3 : rb ≠ b := fun q => by
        have a6 : w.heap[rb]? = _ := a6.blk
        rw [q, ho] at a6
        injection a6 with a6
        injection a6 with _ a6
        exact he.2 a6
      exact ⟨mb, rb, a1, a2, a3, a4.keep hk (hn _ n1), a5.keep hk (hn _ n2), a6.keep hk (hn _ n3)⟩
    | held b' o =>
      obtain ⟨st, sy, F, H, e⟩ := hMs _ hM
      cases e
def rowQ (v : Value) : List Nat := match v.ownBlock with
  | some b => [b]
  | none => []
def docQ (x : Nat) (vh vo vu vw : Value) : List Nat := x :: (rowQ vh ++ rowQ vo ++ rowQ vu ++ rowQ vw)
theorem rowQ_mem {v : Value} {b : Nat} : b ∈ rowQ v ↔ v.ownBlock = some b := by
  unfold rowQ
  cases v.ownBlock with
  | none => simp
  | some c => simp; exact eq_comm
theorem docQ_mem {b : Nat} : b ∈ docQ x vh vo vu vw ↔ b = x ∨ vh.ownBlock = some b ∨ vo.ownBlock = some b ∨ vu.ownBlock = some b ∨ vw.ownBlock = some b := by
  unfold docQ
  simp only [List.mem_cons, List.mem_append, rowQ_mem, or_assoc]
theorem DocIs.kept (h : DocIs w B x vh vo vu vw s) (hk : ∀ b ∈ docQ x vh vo vu vw, w'.heap[b]? = w.heap[b]?) : DocIs w' B x vh vo vu vw s :=
  ⟨(hk x (docQ_mem.2 (.inl rfl))).trans h.blk, h.low, row_kept' h.home fun b e => hk b (docQ_mem.2 (.inr (.inl e))), row_kept' h.on fun b e => hk b (docQ_mem.2 (.inr (.inr (.inl e)))), row_kept' h.used fun b e => hk b (docQ_mem.2 (.inr (.inr (.inr (.inl e))))), row_kept' h.was fun b e => hk b (docQ_mem.2 (.inr (.inr (.inr (.inr e))))), h.apart, h.apart2⟩
theorem DocIs.range (h : DocIs w B x vh vo vu vw s) : ∀ b ∈ docQ x vh vo vu vw, B ≤ b ∧ b < w.heap.size := fun b hb => by
  have key : ∀ {e : TypeId} {v : Value} {n : Nat} {xs : List Value}, w.ownsRow B e 1 v n xs → v.ownBlock = some b → B ≤ b ∧ b < w.heap.size := fun hr e => by
    rcases hr.2 with ⟨rfl, _⟩ | ⟨g', cap, cur, rfl, k1, k2, _⟩
    · cases e
    · injection e with e
      subst e
      exact ⟨k1, heap_lt k2⟩
  rcases docQ_mem.1 hb with rfl | e | e | e | e
  · exact ⟨h.low, h.blk.lt⟩
  · exact key h.home e
  · exact key h.on e
  · exact key h.used e
  · exact key h.was e
end
section
variable {N : Nat} {K : KD} {h : List ByteArray} {Hc : List Int} {c : Nat} {s : DocS}
def setOff (s : DocS) (n : Nat) (A : Int) : Prop := A = 1 ∨ A < 0 ∨ (n : Int) ≤ A ∨ A ∉ s.used
theorem Mat.set_no (a : Mat N K h Hc s) (x : ByteArray) (r : Go11 N K h Hc c) {A : Int} (ho : setOff s (N - 111) A) : setE K A x = 15 ∧ setK K A x = K := by
  have hq : A = 1 ∨ A ∉ K.H := by
    rcases ho with q | q | q | q
    · exact .inl q
    · exact .inr fun m => by have := r.hok.range A m; omega
    · exact .inr fun m => by have := r.hok.range A m; omega
    · exact .inr (a.used ▸ q)
  unfold setE setK
  exact ⟨if_pos hq, if_pos hq⟩
theorem Mat.set_yes (a : Mat N K h Hc s) {x : ByteArray} (r : Go11 N K h Hc c) {A : Int} (ho : ¬ setOff s (N - 111) A) :
    (x.size ≠ 256 → setE K A x = 1 ∧ setK K A x = K) ∧ (x.size = 256 → setE K A x = 0 ∧ Mat N (setK K A x) h Hc { s with on := s.on.set A.toNat x }) := by
  unfold setOff at ho
  have hm : A ∈ K.H := by
    rcases Classical.em (A ∈ K.H) with q | q
    · exact q
    · exact absurd (.inr (.inr (.inr (a.used.symm ▸ q)))) ho
  have h1 : ¬ A = 1 := fun q => ho (.inl q)
  have hq : ¬ (A = 1 ∨ A ∉ K.H) := fun q => q.elim h1 fun z => z hm
  have hr := r.hok.range A hm
  obtain ⟨t, rfl⟩ : ∃ t : Nat, A = (t : Int) := ⟨A.toNat, by omega⟩
  constructor
  · intro hx
    unfold setE setK
    rw [if_neg hq, if_neg hx, if_neg hq, if_neg hx]
    exact ⟨rfl, rfl⟩
  · intro hx
    refine ⟨?_, ?_⟩
    · unfold setE
      rw [if_neg hq, if_pos hx]
    · exact a.set (by omega) h1 hm hx
def badAt (H : List Int) (l : List Int) (j : Nat) : Prop := ∃ x, l[j]? = some x ∧ (x < 2 ∨ x ∉ H ∨ x ∈ l.take j)
theorem dropR_ways : ∀ (l : List Int) {H : List Int}, (∀ z ∈ H, 0 ≤ z) → (dropR H l = none ↔ ∃ j, badAt H l j) ∧ (∀ H', dropR H l = some H' → H' = l.foldl (fun H x => dropL x H) H)
  | [], H, _ => by
    exact ⟨⟨fun e => (nomatch e), fun ⟨j, x, e, _⟩ => (nomatch e)⟩, fun H' e => by injection e with e; exact e.symm⟩
  | y :: r, H, h0 => by
    unfold dropR
    by_cases q : y = 0 ∨ y = 1 ∨ y ∉ H
    · rw [if_pos q]
      refine ⟨⟨fun _ => ⟨0, y, rfl, ?_⟩, fun _ => rfl⟩, fun H' e => by cases e⟩
      rcases q with q | q | q
      · exact .inl (by omega)
      · exact .inl (by omega)
      · exact .inr (.inl q)
    · rw [if_neg q]
      have hy : y ∈ H := Classical.byContradiction fun z => q (.inr (.inr z))
      have hy2 : 2 ≤ y := by
        have := h0 y hy
        have a1 : y ≠ 0 := fun z => q (.inl z)
        have a2 : y ≠ 1 := fun z => q (.inr (.inl z))
        omega
      obtain ⟨i1, i2⟩ := dropR_ways r (H := dropL y H) fun z hz => h0 z ((dropL_mem _ _ _).1 hz).1
      refine ⟨i1.trans ⟨fun ⟨j, x, e, hx⟩ => ⟨j + 1, x, e, ?_⟩, fun ⟨j, x, e, hx⟩ => ?_⟩, i2⟩
      · rw [List.take_succ_cons, List.mem_cons]
        rcases hx with hx | hx | hx
        · exact .inl hx
        · by_cases z : x = y
          · exact .inr (.inr (.inl z))
          · exact .inr (.inl fun m => hx ((dropL_mem _ _ _).2 ⟨m, z⟩))
        · exact .inr (.inr (.inr hx))
      · cases j with
        | zero =>
          injection e with e
          subst e
          rcases hx with hx | hx | hx
          · omega
          · exact absurd hy hx
          · cases hx
        | succ j =>
          refine ⟨j, x, e, ?_⟩
          rw [List.take_succ_cons, List.mem_cons] at hx
          rcases hx with hx | hx | hx | hx
          · exact .inl hx
          · exact .inr (.inl fun m => hx ((dropL_mem _ _ _).1 m).1)
          · exact .inr (.inl fun m => ((dropL_mem _ _ _).1 m).2 hx)
          · exact .inr (.inr hx)
def dropF (H l : List Int) : List Int := l.foldl (fun H x => dropL x H) H
theorem dropF_mem (l : List Int) : ∀ (H : List Int) (z : Int), z ∈ dropF H l ↔ z ∈ H ∧ z ∉ l := by
  induction l with
  | nil => intro H z; simp [dropF]
  | cons y r ih =>
    intro H z
    show z ∈ dropF (dropL y H) r ↔ _
    rw [ih, dropL_mem, List.mem_cons, not_or, and_assoc]
theorem Mat.drop_no (a : Mat N K h Hc s) (r : Go11 N K h Hc c) {l : List Int} (hb : ∃ j, badAt s.used l j) : dropE K l = 15 ∧ dropK K l = K := by
  have e := (dropR_ways l (H := K.H) fun z hz => (r.hok.range z hz).1).1.2 (by rw [← a.used]; exact hb)
  unfold dropE dropK
  rw [e]
  exact ⟨rfl, rfl⟩
theorem Mat.drop_yes (a : Mat N K h Hc s) (r : Go11 N K h Hc c) {l : List Int} (hb : ¬ ∃ j, badAt s.used l j) {s' : DocS} (hs : s'.home = s.home ∧ s'.was = s.was ∧ s'.used = dropF s.used l ∧ s'.on.length = s.on.length) (ho : ∀ t : Nat, t < N - 111 → s'.on.getD t .empty = if (t : Int) ∈ l then .empty else s.on.getD t .empty) :
    dropE K l = 0 ∧ Mat N (dropK K l) h Hc s' := by
  obtain ⟨w1, w2⟩ := dropR_ways l (H := K.H) fun z hz => (r.hok.range z hz).1
  cases e : dropR K.H l with
  | none => exact absurd (by rw [a.used]; exact w1.1 e) hb
  | some H =>
    have eH := w2 H e
    unfold dropE dropK
    rw [e]
    refine ⟨rfl, a.use ⟨hs.1, hs.2.1, ?_, hs.2.2.2⟩ fun t ht => ?_⟩
    · rw [hs.2.2.1, a.used, eH]
      rfl
    · rw [ho t ht, eH]
      show _ = if (t : Int) ∈ dropF K.H l then s.on.getD t .empty else .empty
      by_cases q : (t : Int) ∈ l
      · rw [if_pos q, if_neg fun m => ((dropF_mem l K.H t).1 m).2 q]
      · rw [if_neg q]
        by_cases z : (t : Int) ∈ K.H
        · rw [if_pos ((dropF_mem l K.H t).2 ⟨z, q⟩)]
        · rw [if_neg fun m => z ((dropF_mem l K.H t).1 m).1, a.on t ht]
          exact Classical.byContradiction fun y => z (r.ok.used _ y).1
def putF (l : List Int) : List Int := l.foldl (fun H x => putL x H) [0, 1]
theorem foldPut (l : List Int) : ∀ H : List Int, H.Pairwise (· < ·) → (l.foldl (fun H x => putL x H) H).Pairwise (· < ·) ∧ ∀ z, z ∈ l.foldl (fun H x => putL x H) H ↔ z ∈ H ∨ z ∈ l := by
  induction l with
  | nil => intro H hh; exact ⟨hh, fun z => by simp⟩
  | cons y r ih =>
    intro H hh
    obtain ⟨i1, i2⟩ := ih (putL y H) (putL_strict y H hh)
    refine ⟨i1, fun z => (i2 z).trans ?_⟩
    rw [putL_mem, List.mem_cons]
    constructor
    · rintro ((q | q) | q)
      · exact .inr (.inl q)
      · exact .inl q
      · exact .inr (.inr q)
    · rintro (q | q | q)
      · exact .inl (.inr q)
      · exact .inl (.inl q)
      · exact .inr q
theorem putF_each (l : List Int) : putF l = putEach (0 :: 1 :: l) := by
  obtain ⟨i1, i2⟩ := foldPut l [0, 1] (by simp)
  refine strict_ext _ _ i1 (putEach_spec _).1 fun z => (i2 z).trans ?_
  rw [(putEach_spec _).2 z]
  simp only [List.mem_cons, List.not_mem_nil, or_false, or_assoc]
def rangeBad (n : Nat) (l : List Int) : Prop := ∃ x ∈ l, x < 0 ∨ (n : Int) ≤ x
theorem Mat.keep_no (_ : Mat N K h Hc s) (r : Go11 N K h Hc c) {l : List Int} (hb : rangeBad (N - 111) l) : stayE K l = 15 ∧ stayK K l = K := stay_no fun q => by
  obtain ⟨x, hx, hb⟩ := hb
  have := q x (by simp [hx])
  rw [r.ok.len] at this
  omega
theorem Mat.keep_yes (a : Mat N K h Hc s) (r : Go11 N K h Hc c) {l : List Int} (hb : ¬ rangeBad (N - 111) l) {s' : DocS} (hs : s'.home = s.home ∧ s'.was = s.was ∧ s'.used = putF l ∧ s'.on.length = s.on.length) (ho : ∀ t : Nat, t < N - 111 → s'.on.getD t .empty = if (t : Int) ∈ putF l then s.on.getD t .empty else .empty) :
    stayE K l = 0 ∧ Mat N (stayK K l) h Hc s' := by
  have hd := r.ok.dim
  have hy : StayOk K l := fun x hx => by
    rw [r.ok.len]
    simp only [List.mem_cons] at hx
    rcases hx with rfl | rfl | hx
    · omega
    · omega
    · refine Classical.byContradiction fun q => hb ⟨x, hx, by omega⟩
  obtain ⟨e1, e2⟩ := stay_yes hy
  refine ⟨e1, ?_⟩
  rw [e2, ← putF_each]
  exact a.use hs ho
theorem Mat.new_at (a : Mat N K h Hc s) (r : Go11 N K h Hc c) {k : Nat} (hk : ∀ i : Nat, i < k → s.used[i]? = some (i : Int)) (hn : s.used[k]? ≠ some (k : Int)) : Least K.H k := by
  have hs : K.H.Pairwise (· < ·) := r.hok.rise
  rw [a.used] at hk hn
  refine ⟨fun i hi => List.mem_of_getElem? (hk i hi), fun hm => ?_⟩
  obtain ⟨j, hj⟩ := List.getElem?_of_mem hm
  have hjl : j < K.H.length := by
    rcases Nat.lt_or_ge j K.H.length with q | q
    · exact q
    · rw [List.getElem?_eq_none q] at hj; cases hj
  rcases Nat.lt_trichotomy j k with q | q | q
  · rw [hk j q] at hj
    injection hj with hj
    omega
  · subst q
    exact hn hj
  · have hlt := List.pairwise_iff_getElem.1 hs
    have hkl : k < K.H.length := by omega
    rw [List.getElem?_eq_getElem hjl] at hj
    injection hj with hj
    have h1 := hlt k j hkl hjl q
    rw [hj] at h1
    cases k with
    | zero => have := (r.hok.range _ (List.getElem_mem hkl)).1; omega
    | succ k =>
      have e := hk k (by omega)
      rw [List.getElem?_eq_getElem (by omega)] at e
      injection e with e
      have h2 := hlt k (k + 1) (by omega) hkl (by omega)
      omega
end
theorem sync_calm11 {N c : Nat} {K : KD} {h : List ByteArray} (r : Run11 N K h c) (hl : (pendL K).length ≤ 110) (hp : pendT K ≠ []) : ∃ s n, (syncK K).S = calm s n ∧ n ≤ 1000 * (c + 1) := by
  obtain ⟨s0, s, d, n, e, hs, hn, hd⟩ := r.still
  have hseq := hs.seq
  have hq := r.seq
  have hlen : s.length = N := hs.len
  have hl2 : (pendT K).length ≤ 110 := by rw [← pendL_length]; exact hl
  have hco := pend_ok r.ok ⟨hseq.1, by omega⟩ hp hl2
  have hR : commitR K.S K.seq K.k (pendL K) = ⟨Go.Proofs.YtiagofgcinlnhaaGreatDoor.calm (doneS s K.seq (pendL K) (pendT K)) (n + (2 * (pendT K).length + 2)), K.seq + 1, true, K.k + 1, 0⟩ := by
    rw [e]
    exact warm_commit hco s0 s hlen d n K.k
  refine ⟨doneS s K.seq (pendL K) (pendT K), n + (2 * (pendT K).length + 2), ?_, ?_⟩
  · unfold syncK
    rw [if_neg (by omega), hR, if_pos rfl]
    rfl
  · omega
theorem start_go {N : Nat} {h : List ByteArray} (hN : 140 ≤ N ∧ N ≤ 400) (f : Fresh11 N (syncK (fmtK (DS.fresh N (zeroB 256)) 0)) h) : Go11 N (syncK (fmtK (DS.fresh N (zeroB 256)) 0)) h [0, 1] 3 := by
  have hs : Held N 0 (List.replicate (N - 111) (zeroB 256)) (DS.fresh N (zeroB 256)).now := headQ_zero N hN
  have r0 := fmt_start (c := 1) hs (s0 := List.replicate N (zeroB 256)) (s := List.replicate N (zeroB 256)) (d := []) (n := 0) rfl (DS.Ok.fresh _ _) (by omega) (by omega) (by simp)
  have hp := fmt_pend hs
  obtain ⟨s, n, e, hn⟩ := sync_calm11 r0 (by rw [pendL_length, hp]; decide) (by rw [hp]; decide)
  have r := f.run
  have hh := r.now.1
  have hl := r.ok.len
  have hH := f.H
  have hok := r.hok
  rw [hH] at hok
  have hk : (syncK (fmtK (DS.fresh N (zeroB 256)) 0)).kept = bs (roomT (N - 111) [0, 1]) := by
    rw [f.kept]
    unfold roomS
    rw [hl, hH]
  rw [e] at hh
  have h1 := r.kk
  have h2 := r.seq
  have h3 := r.syncs
  refine ⟨⟨s, by rw [e]; exact clean_calm s n, hh⟩, r.sok, by rw [e]; show 0 ≤ 60; omega, by rw [e]; show n ≤ _; omega, r.ok, r.hok, r.up, r.bad, ⟨h1.1, by omega⟩, by omega, ⟨h3.1, by omega⟩, hk, hok, by simp, by simp, ?_⟩
  rw [f.home]
  unfold sector1
  rw [List.getD_eq_getElem?_getD, List.getElem?_set_self (by rw [List.length_replicate]; omega)]
  rfl
def startD (n : Nat) : DocS := ⟨List.replicate n (zeroB 256), List.replicate n .empty, [0, 1], [0, 1]⟩
theorem start_mat {N : Nat} {K : KD} {h : List ByteArray} (f : Fresh11 N K h) : Mat N K h [0, 1] (syncD (startD (N - 111))) := by
  have key : ∀ j, layTo (List.replicate (N - 111) (zeroB 256)) (List.replicate (N - 111) .empty) j = (List.replicate (N - 111) (zeroB 256), List.replicate (N - 111) .empty) := by
    intro j
    induction j with
    | zero => rfl
    | succ j ih =>
      unfold layTo
      rw [if_neg, ih]
      intro q
      apply q
      rw [List.getD_eq_getElem?_getD, List.getElem?_replicate]
      split <;> rfl
  refine ⟨?_, ?_, fun t ht => ?_, f.H.symm, rfl⟩
  · rw [f.home]
    show (layTo (List.replicate (N - 111) (zeroB 256)) (List.replicate (N - 111) .empty) _).1.set 1 (bs (roomT (List.replicate (N - 111) (zeroB 256)).length [0, 1])) = _
    rw [key, List.length_replicate]
  · show (layTo (List.replicate (N - 111) (zeroB 256)) (List.replicate (N - 111) .empty) _).2.length = _
    rw [key, List.length_replicate]
  · show (layTo (List.replicate (N - 111) (zeroB 256)) (List.replicate (N - 111) .empty) _).2.getD t .empty = _
    rw [key, f.F, List.getD_eq_getElem?_getD, List.getElem?_replicate]
    split <;> rfl
end Go.Proofs.YtiagofgcinlnhaaGreatDoor
