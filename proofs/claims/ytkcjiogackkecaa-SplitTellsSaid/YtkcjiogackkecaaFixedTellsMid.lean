/-
  FixedTells: what stays of what was lent, the book's first list, the law's own walk over spans as plain data. No statement is proved here.
-/
import Derived.Test.YtkcjiogackkecaaFixedAlive
import Derived.Test.YtkcjiogackkecaaSpanAt
import Derived.Test.YtkcjiogackkecaaSpansView
import Derived.Test.YtkcjiogackkecaaBookTexts
import Derived.Test.YtkcjiogackkecaaFixedTouchesWalk
namespace Go.Proofs.Ytkcjiogackkecaa
open Go.RowKit

theorem below_drawn (B : Nat) (w : World) (n : Nat) : Below B w (w.drewN n) := ⟨rfl, rfl, rfl, Nat.le_refl _, fun _ _ => rfl⟩
theorem Lent.same {w w' : World} {B g cap : Nat} {xs : List ByteArray} (h : Lent w B g cap xs) (hs : w.heap.size ≤ w'.heap.size) (hb : w'.heap[g]? = w.heap[g]?) : Lent w' B g cap xs := by
  obtain ⟨h0, h1, h2, h3, h4⟩ := h
  exact ⟨h0, Nat.lt_of_lt_of_le h1 hs, h2, h3, fun j x hx => (World.cell?_of_block (w := w) hb).trans (h4 j x hx)⟩
theorem LentS.same {w w' : World} {B g cap : Nat} {xs : List (Int × Int)} (h : LentS w B g cap xs) (hs : w.heap.size ≤ w'.heap.size) (hb : w'.heap[g]? = w.heap[g]?) : LentS w' B g cap xs := by
  obtain ⟨h0, h1, h2, h3, h4⟩ := h
  exact ⟨h0, Nat.lt_of_lt_of_le h1 hs, h2, h3, fun j x hx => ⟨(World.cell?_of_block (w := w) hb).trans (h4 j x hx).1, (World.cell?_of_block (w := w) hb).trans (h4 j x hx).2⟩⟩

/-- The first list of a book. -/
theorem spans_first {B g : Nat} {w : World} (hbk : Blk w g 61 (bookS (.slice none 0 0) (.slice none 0 0))) (hB : B ≤ g) (l : LS) (B' : Nat) (hBB : B ≤ B') (hrow : w.ownsRow B' 36 2 l.val l.xs.length (flatS l.xs)) (hl : l.xs.length ≤ 900000) :
    Calls Try.prog 26 #[.pointer (some ⟨g, 0, none⟩), l.val] w fun e w' => e = .returned (.tuple #[]) ∧ SpansAt B g 1 [l] w' ∧ Below B w w' ∧ ∀ b, b < w.heap.size → b ≠ g → w'.heap[b]? = w.heap[b]? := by
  have hc0 : l.A = none → l.c = 0 := fun e => by
    rcases hrow.2 with ⟨h, _⟩ | ⟨g', cap2, cur, h, _⟩
    · unfold LS.val at h
      injection h with _ _ h
    · unfold LS.val at h
      simp only [e] at h
      injection h with h
      cases h
  have hg : ∀ b, l.val.ownBlock = some b → b ≠ g := fun b hb e => row_off hrow hbk (by decide) (by rw [← e]; exact hb)
  refine (sadd_any g B 0 0 0 none none [] [] l w hbk hB (World.ownsRow_nil _ _ _ _) (World.ownsRow_nil _ _ _ _) (fun _ h => by cases h) (by omega) (row_spans (base := B') hrow) hc0 hl (fun b off e => ⟨(fun h => by cases h), (fun h => by cases h), hg b (by unfold LS.val; rw [e]; rfl)⟩)).mono ?_
  rintro e w' ⟨rfl, p2, cp2, q2, cq2, u, k1, k2, k3, k4, k5, k6, k7, k8⟩
  have hsame : ∀ b, b < w.heap.size → b ≠ g → w'.heap[b]? = w.heap[b]? := fun b h1 h2 => k8 b h1 h2 (fun h => by cases h) (fun h => by cases h)
  have hrow' : w'.ownsRow B 36 2 l.val l.xs.length (flatS l.xs) := row_lower (row_kept' hrow fun b hb => hsame b (hrow.lt b hb).2 (hg b hb)) hBB
  refine ⟨rfl, ⟨p2, cp2, q2, cq2, [u], k1, hB, k2, k3, k4, rfl, rfl, ⟨fun i z hz => ?_, fun i j z z' b hz hz' hne _ => ?_⟩, fun z hz => ?_, fun i z y hz hy => ?_⟩, k7, hsame⟩
  · cases i with
    | zero => injection hz with hz; subst hz; exact hrow'
    | succ i => simp at hz
  · cases i with
    | zero =>
      cases j with
      | zero => exact absurd rfl hne
      | succ j => simp at hz'
    | succ i => simp at hz
  · rw [List.mem_singleton.1 hz]; exact hl
  · cases i with
    | zero =>
      injection hz with hz
      injection hy with hy
      subst hz hy
      exact ⟨k5.symm, row_lower k6 (Nat.le_trans hB (Nat.le_of_lt hbk.lt))⟩
    | succ i => simp at hz

/-- Where the law's own walk over the spans stands: what it wants, whether all were good. -/
def WantSt (s : ByteArray) (sp : List (Int × Int)) (j : Nat) (W : ByteArray) (gd : Bool) : Prop :=
  (gd = true ∧ W = ⟨(joinL s (sp.take j)).toArray⟩ ∧ (sp.take j).all (okSp s.size) = true ∧ W.size ≤ 20000) ∨ (gd = false ∧ ((sp.all (okSp s.size) = false ∧ W.size ≤ 20000) ∨ 20000 < W.size))
/-- Where it ends. -/
def WantEnd (s : ByteArray) (sp : List (Int × Int)) (W : ByteArray) (gd : Bool) : Prop :=
  (gd = true ∧ W = ⟨(joinL s sp).toArray⟩ ∧ sp.all (okSp s.size) = true) ∨ (gd = false ∧ ((sp.all (okSp s.size) = false ∧ W.size ≤ 20000) ∨ 20000 < W.size))
theorem WantSt.start (s : ByteArray) (sp : List (Int × Int)) : WantSt s sp 0 ⟨#[]⟩ true := .inl ⟨rfl, by simp [joinL], by simp, by decide⟩
theorem WantSt.end_ {s : ByteArray} {sp : List (Int × Int)} {j : Nat} {W : ByteArray} {gd : Bool} (h : WantSt s sp j W gd) (hj : gd = true → j = sp.length) : WantEnd s sp W gd := by
  rcases h with ⟨h1, h2, h3, _⟩ | h
  · have e := hj h1
    subst e
    rw [List.take_length] at h2 h3
    exact .inl ⟨h1, h2, h3⟩
  · exact .inr h
theorem WantSt.bad {s : ByteArray} {sp : List (Int × Int)} {j : Nat} {W : ByteArray} {x : Int × Int} (h : WantSt s sp j W true) (hx : sp[j]? = some x) (hb : okSp s.size x = false) (j' : Nat) : WantSt s sp j' W false := by
  rcases h with ⟨_, _, _, h4⟩ | ⟨h, _⟩
  · exact .inr ⟨rfl, .inl ⟨join_bad hx hb, h4⟩⟩
  · cases h
theorem WantSt.size {s : ByteArray} {sp : List (Int × Int)} {j : Nat} {W : ByteArray} (h : WantSt s sp j W true) : W.size ≤ 20000 := by
  rcases h with ⟨_, _, _, h4⟩ | ⟨h, _⟩
  · exact h4
  · cases h
theorem WantSt.good {s : ByteArray} {sp : List (Int × Int)} {j : Nat} {W : ByteArray} {x : Int × Int} (h : WantSt s sp j W true) (hx : sp[j]? = some x) (hb : okSp s.size x = true) :
    WantSt s sp (j + 1) (W ++ partB s x) (decide ((W ++ partB s x).size ≤ 20000)) := by
  rcases h with ⟨_, h2, h3, h4⟩ | ⟨h, _⟩
  · by_cases hs : (W ++ partB s x).size ≤ 20000
    · rw [decide_eq_true hs]
      refine .inl ⟨rfl, ?_, ?_, hs⟩
      · rw [joinL_snoc hx, h2]
        apply ByteArray.ext
        apply Array.ext'
        rw [ByteArray.data_append, Array.toList_append]
      · rw [List.take_add_one, hx, List.all_append, h3]
        simp [hb]
    · rw [decide_eq_false hs]
      exact .inr ⟨rfl, .inr (by omega)⟩
  · cases h
end Go.Proofs.Ytkcjiogackkecaa
