/-
  masonrybook's book as one fact: which lists of spans it keeps, one more, what stays, and that all are apart. No statement is proved here.
-/
import Derived.Test.YtkcjiogackkecaaSpanAdd
namespace Go.Proofs.Ytkcjiogackkecaa
open Go.RowKit

/-- The book in block g keeps these lists, all of them above B. -/
def SpansAt (B g k : Nat) (ls : List LS) (w : World) : Prop :=
  ∃ (p : Option Addr) (cp : Nat) (q : Option Addr) (cq : Nat) (us : List LS), Blk w g 61 (bookS (.slice p k cp) (.slice q k cq)) ∧ B ≤ g ∧ w.ownsRow B 33 1 (.slice p k cp) k (ls.map LS.val) ∧ w.ownsRow B 33 1 (.slice q k cq) k (us.map LS.val) ∧
    (∀ b, (Value.slice p k cp).ownBlock = some b → (Value.slice q k cq).ownBlock ≠ some b) ∧ ls.length = k ∧ us.length = k ∧ RowsS w B ls ∧ (∀ l ∈ ls, l.xs.length ≤ 900000) ∧
    (∀ (i : Nat) (l u : LS), ls[i]? = some l → us[i]? = some u → l.xs = u.xs ∧ w.ownsRow B 36 2 u.val u.xs.length (flatS u.xs))

theorem SpansAt.start (w : World) : SpansAt w.heap.size w.heap.size 0 [] (w.alloc (.cells (bookS (.slice none 0 0) (.slice none 0 0)) 61)) :=
  ⟨none, 0, none, 0, [], Blk.new w _ _, Nat.le_refl _, World.ownsRow_nil _ _ _ _, World.ownsRow_nil _ _ _ _, (fun _ h => by cases h), rfl, rfl, ⟨(fun _ _ h => by cases h), (fun _ _ _ _ _ h => by cases h)⟩, (fun _ h => by cases h), (fun _ _ _ h => by cases h)⟩
theorem SpansAt.below {B g k : Nat} {ls : List LS} {w w' : World} (h : SpansAt B g k ls w) (hb : Below w.heap.size w w') : SpansAt B g k ls w' := by
  obtain ⟨p, cp, q, cq, us, h1, h2, h3, h4, h5, h6, h7, h8, h9, h10⟩ := h
  exact ⟨p, cp, q, cq, us, h1.below hb h1.lt, h2, row_below h3 hb, row_below h4 hb, h5, h6, h7, h8.below hb, h9, fun i l u hl hu => ⟨(h10 i l u hl hu).1, row_below (h10 i l u hl hu).2 hb⟩⟩
theorem SpansAt.lt {B g k : Nat} {ls : List LS} {w : World} (h : SpansAt B g k ls w) : g < w.heap.size := by
  obtain ⟨p, cp, q, cq, us, h1, _⟩ := h
  exact h1.lt

theorem SpansAt.old {B g k : Nat} {ls : List LS} {w : World} (h : SpansAt B g k ls w) : ∀ l ∈ ls, ∀ b, l.val.ownBlock = some b → b < w.heap.size := fun l hl b hb => by
  obtain ⟨p, cp, q, cq, us, h1, h2, h3, h4, h5, h6, h7, h8, h9, h10⟩ := h
  obtain ⟨i, hi⟩ := List.getElem?_of_mem hl
  exact ((h8.own i l hi).lt b hb).2

/-- What a call on the book leaves: all that is neither a book nor a row of lists. -/
def BookLeavesS (w w' : World) : Prop := ∀ (b : Nat) (t : TypeId) (cs : Array Value), Blk w b t cs → t ≠ 33 → t ≠ 61 → Blk w' b t cs
theorem BookLeavesS.row {w w' : World} (h : BookLeavesS w w') {base n size : Nat} {e : TypeId} {v : Value} {xs : List Value} (hr : w.ownsRow base e size v n xs) (h1 : e ≠ 33) (h2 : e ≠ 61) : w'.ownsRow base e size v n xs :=
  row_kept' hr fun b hb => by
    obtain ⟨cs, hc⟩ := row_type hr hb
    have := h b e cs hc h1 h2
    exact Eq.trans this hc.symm

theorem SpansAt.add {B g k : Nat} {ls : List LS} {w : World} (h : SpansAt B g k ls w) (l : LS) (B' : Nat) (hB : B ≤ B') (hrow : w.ownsRow B' 36 2 l.val l.xs.length (flatS l.xs)) (hnew : ∀ l' ∈ ls, ∀ b, l'.val.ownBlock = some b → b < B') (hk : k < 250) (hl : l.xs.length ≤ 900000) :
    Calls Try.prog 26 #[.pointer (some ⟨g, 0, none⟩), l.val] w fun e w' => e = .returned (.tuple #[]) ∧ SpansAt B g (k + 1) (ls ++ [l]) w' ∧ Below B w w' ∧ BookLeavesS w w' := by
  obtain ⟨p, cp, q, cq, us, h1, h2, h3, h4, h5, h6, h7, h8, h9, h10⟩ := h
  have hrow' := hrow
  obtain ⟨A, c, xs⟩ := l
  obtain ⟨p', cap', hv, -, -, hA0, hAs⟩ := krow_form hrow
  unfold LS.val at hv
  simp only at hv
  injection hv with e1 _ e3
  have hA : ∀ b off, A = some ⟨b, off, none⟩ → (LS.mk A c xs).val.ownBlock = some b := fun b off e => by
    unfold LS.val
    rw [e]
    rfl
  have hc0 : A = none → c = 0 := fun e => by
    rcases hrow.2 with ⟨h, _⟩ | ⟨g', cap2, cur, h, _⟩
    · unfold LS.val at h
      injection h with _ _ h
    · unfold LS.val at h
      simp only [e] at h
      injection h with h
      cases h
  refine (sadd_any g B k cp cq p q ls us ⟨A, c, xs⟩ w h1 h2 h3 h4 h5 hk (row_spans (base := B') hrow) hc0 hl (fun b off e => ⟨fun e' => row_apart h3 hrow (by decide) e' (hA b off e), fun e' => row_apart h4 hrow (by decide) e' (hA b off e), fun e' => row_off hrow h1 (by decide) (by rw [← e']; exact hA b off e)⟩)).mono ?_
  rintro e w' ⟨rfl, p2, cp2, q2, cq2, u, k1, k2, k3, k4, k5, k6, k7, k8⟩
  have hleave : BookLeavesS w w' := fun b t cs hb ht1 ht2 => by
    refine Eq.trans (k8 b hb.lt (fun e => ?_) (fun e => row_off h3 hb (fun e => ht1 e.symm) e) (fun e => row_off h4 hb (fun e => ht1 e.symm) e)) hb
    subst e
    have h1 : w.heap[b]? = _ := h1
    have hb : w.heap[b]? = _ := hb
    rw [h1] at hb
    injection hb with hb
    injection hb with _ hb _
    exact ht2 hb.symm
  have hint : (36 : TypeId) ≠ 33 := by decide
  have hint2 : (36 : TypeId) ≠ 61 := by decide
  refine ⟨rfl, ⟨p2, cp2, q2, cq2, us ++ [u], k1, h2, k2, k3, k4, by rw [List.length_append, h6]; rfl, by rw [List.length_append, h7]; rfl, ⟨fun i z hz => ?_, fun i j z z' b hz hz' hne hb => ?_⟩, fun z hz => ?_, fun i z y hz hy => ?_⟩, k7, hleave⟩
  · rcases Nat.lt_or_ge i ls.length with hi | hi
    · rw [List.getElem?_append_left hi] at hz
      exact hleave.row (h8.own i z hz) hint hint2
    · rw [List.getElem?_append_right hi] at hz
      cases hd : i - ls.length with
      | zero =>
        rw [hd] at hz
        injection hz with hz
        subst hz
        exact row_lower (hleave.row hrow' hint hint2) hB
      | succ d => rw [hd] at hz; simp at hz
  · have old : ∀ (i : Nat) (z : LS), (ls ++ [LS.mk A c xs])[i]? = some z → (i < ls.length ∧ ls[i]? = some z) ∨ (i = ls.length ∧ z = LS.mk A c xs) := fun i z hz => by
      rcases Nat.lt_or_ge i ls.length with hi | hi
      · rw [List.getElem?_append_left hi] at hz
        exact .inl ⟨hi, hz⟩
      · rw [List.getElem?_append_right hi] at hz
        cases hd : i - ls.length with
        | zero =>
          rw [hd] at hz
          injection hz with hz
          exact .inr ⟨by omega, hz.symm⟩
        | succ d => rw [hd] at hz; simp at hz
    rcases old i z hz with ⟨hi, hz⟩ | ⟨hi, rfl⟩
    · rcases old j z' hz' with ⟨hj, hz'⟩ | ⟨hj, rfl⟩
      · exact h8.apart i j z z' b hz hz' hne hb
      · intro e
        have := hnew z (List.mem_of_getElem? hz) b hb
        have := (hrow'.lt b e).1
        omega
    · rcases old j z' hz' with ⟨hj, hz'⟩ | ⟨hj, rfl⟩
      · intro e
        have := hnew z' (List.mem_of_getElem? hz') b e
        have := (hrow'.lt b hb).1
        omega
      · omega
  · rcases List.mem_append.1 hz with hz | hz
    · exact h9 z hz
    · rw [List.mem_singleton.1 hz]; exact hl
  · rcases Nat.lt_or_ge i ls.length with hi | hi
    · rw [List.getElem?_append_left hi] at hz
      rw [List.getElem?_append_left (by omega)] at hy
      obtain ⟨e1, e2⟩ := h10 i z y hz hy
      exact ⟨e1, hleave.row e2 hint hint2⟩
    · rw [List.getElem?_append_right hi] at hz
      rw [List.getElem?_append_right (by omega)] at hy
      rw [show i - us.length = i - ls.length by omega] at hy
      cases hd : i - ls.length with
      | zero =>
        rw [hd] at hz hy
        injection hz with hz
        injection hy with hy
        subst hz hy
        exact ⟨k5.symm, row_lower k6 (Nat.le_trans h2 (Nat.le_of_lt h1.lt))⟩
      | succ d => rw [hd] at hz; simp at hz

theorem rowAt_own {w : World} {base n cap : Nat} {p : Option Addr} {vs : List Value} (h : w.ownsRow base 33 1 (.slice p n cap) n vs) : RowAt w p vs := row_atS h

theorem SpansAt.apart {B g k : Nat} {ls : List LS} {w : World} (h : SpansAt B g k ls w) (hk : k ≤ 1000) :
    Calls Try.prog 28 #[.pointer (some ⟨g, 0, none⟩)] w fun e w' => e = .returned (.bool true) ∧ Below B w w' := by
  obtain ⟨p, cp, q, cq, us, h1, h2, h3, h4, h5, h6, h7, h8, h9, h10⟩ := h
  have hrow : ∀ l ∈ ls, w.ownsRow B 36 2 l.val l.xs.length (flatS l.xs) := fun l hl => by
    obtain ⟨i, hi⟩ := List.getElem?_of_mem hl
    exact h8.own i l hi
  refine sapart_any g B p q k cp cq ls us w h1 (Nat.le_trans h2 (Nat.le_of_lt h1.lt)) h6 h7 (row_atS h3) (row_atS h4) hk h8 (fun l hl => row_off (hrow l hl) h1 (by decide)) (fun a ha l hl e => ?_) h9 (fun i l u hl hu => ⟨(h10 i l u hl hu).1, ?_⟩)
  · exact row_apart h3 (hrow l hl) (by decide) (b := a.block) (by rw [ha]; rfl) e
  · obtain ⟨e1, e2⟩ := h10 i l u hl hu
    rw [e1]
    exact row_spans e2
end Go.Proofs.Ytkcjiogackkecaa
