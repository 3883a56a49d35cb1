/-
  masonrybook's lists of spans that are kept: all are grown. No statement is proved here.
-/
import Derived.Test.YtnmdpbnddbccmaaSpanGrowPure
namespace Go.Proofs.Ytnmdpbnddbccmaa
open Go.RowKit

/-- So many of the kept lists are grown. -/
structure GrowStS (w wr : World) (B : Nat) (zs gs : List LS) (i : Nat) : Prop where
  len : gs.length = i
  rows : ∀ (a : Nat) (l : LS), gs[a]? = some l → wr.ownsRow B 52 2 l.val l.xs.length (flatS l.xs) ∧ l.xs = marksS a 0 l.xs.length ∧ l.xs.length ≤ 1000000 ∧ ((∃ z, zs[a]? = some z ∧ l.val.ownBlock = z.val.ownBlock) ∨ ∃ b, l.val.ownBlock = some b ∧ w.heap.size ≤ b)
  left : ∀ (a : Nat) (z : LS), zs[a]? = some z → i ≤ a → wr.ownsRow B 52 2 z.val z.xs.length (flatS z.xs)
  zspans : ∀ (a : Nat) (z : LS), zs[a]? = some z → Spans wr wr.heap.size z.A z.xs
  kept : KeptS zs B w wr
theorem spans_blocks {w w' : World} {A : Option Addr} {xs : List (Int × Int)} (h : Spans w w.heap.size A xs) (hs : w.heap.size ≤ w'.heap.size) (hb : ∀ b off, A = some ⟨b, off, none⟩ → b < w.heap.size → w'.heap[b]? = w.heap[b]?) : Spans w' w'.heap.size A xs := fun hp => by
  obtain ⟨b, off, e, hbl, hc⟩ := h hp
  exact ⟨b, off, e, Nat.lt_of_lt_of_le hbl hs, fun j x hx => ⟨(World.cell?_of_block (w := w) (hb b off e hbl)).trans (hc j x hx).1, (World.cell?_of_block (w := w) (hb b off e hbl)).trans (hc j x hx).2⟩⟩
theorem GrowStS.start {w : World} {B : Nat} {zs : List LS} (hr : RowsS w B zs) (hz : ∀ (a : Nat) (z : LS), zs[a]? = some z → Spans w w.heap.size z.A z.xs) : GrowStS w w B zs [] 0 :=
  ⟨rfl, fun a l h => by simp at h, fun a z h _ => hr.own a z h, hz, KeptS.refl _ _ _⟩
/-- One more is grown. -/
theorem GrowStS.next {w wr w2 : World} {B : Nat} {zs gs : List LS} {i n t g cap : Nat} {z : LS} (h : GrowStS w wr B zs gs i) (hr : RowsS w B zs) (hz : zs[i]? = some z) (hnt : n + t ≤ 1000000)
    (hg : GrowAtS wr w2 B z i n t (.slice (some ⟨g, 0, none⟩) (n + t) cap)) : GrowStS w w2 B zs (gs ++ [⟨some ⟨g, 0, none⟩, cap, marksS i 0 (n + t)⟩]) (i + 1) := by
  have hzb : ∀ b, z.val.ownBlock = some b → b < w.heap.size := fun b hb => ((hr.own i z hz).lt b hb).2
  have hfar : ∀ b, b < wr.heap.size → z.val.ownBlock ≠ some b → w2.heap[b]? = wr.heap[b]? := fun b h1 h2 => hg.kept.block b h1 (freeS_one h2)
  refine ⟨by rw [List.length_append, h.len]; rfl, fun a l hl => ?_, fun a y hy ha => ?_, fun a y hy => ?_, ?_⟩
  · rcases Nat.lt_or_ge a gs.length with ha | ha
    · rw [List.getElem?_append_left ha] at hl
      obtain ⟨r1, r2, r3, r4⟩ := h.rows a l hl
      refine ⟨row_kept' r1 fun q hq => hfar q (r1.lt q hq).2 fun e => ?_, r2, r3, r4⟩
      rcases r4 with ⟨y, hy, h4⟩ | ⟨b, h4, h5⟩
      · rw [h4] at hq
        exact hr.apart a i y z q hy hz (by rw [h.len] at ha; omega) hq e
      · rw [h4] at hq
        injection hq with hq
        subst hq
        have := hzb _ e
        omega
    · have ha' : a = i := by
        rw [List.getElem?_append_right ha] at hl
        rcases Nat.eq_or_lt_of_le ha with e | e
        · rw [← e, h.len]
        · rw [List.getElem?_eq_none (by simp; omega)] at hl; cases hl
      subst ha'
      rw [List.getElem?_append_right ha, h.len, Nat.sub_self] at hl
      injection hl with hl
      subst hl
      refine ⟨?_, by simp only [marksS_length], by simp only [marksS_length]; exact hnt, ?_⟩
      · unfold LS.val
        simp only [marksS_length]
        exact hg.row
      · rcases hg.place with h5 | ⟨b, h5, h6⟩
        · left
          refine ⟨z, hz, ?_⟩
          rw [← h5]
          rfl
        · right
          refine ⟨b, ?_, Nat.le_trans h.kept.below.size h6⟩
          rw [← h5]
          rfl
  · have ho := h.left a y hy (by omega)
    exact row_kept' ho fun q hq => hfar q (ho.lt q hq).2 fun e => hr.apart a i y z q hy hz (by omega) hq e
  · by_cases hai : a = i
    · subst hai
      rw [hz] at hy
      cases hy
      exact hg.zspans
    · refine spans_blocks (h.zspans a y hy) hg.kept.below.size fun b off e hb => hfar b hb fun e2 => hr.apart a i y z b hy hz hai (by unfold LS.val; rw [e]; rfl) e2
  · refine ⟨h.kept.below.trans hg.kept.below, fun b h1 h2 => ?_⟩
    exact (hfar b (Nat.lt_of_lt_of_le h1 h.kept.below.size) (h2 z (List.mem_of_getElem? hz))).trans (h.kept.block b h1 h2)
/-- A block of another kind turns. -/
theorem GrowStS.grown {w wr w2 : World} {B : Nat} {zs gs : List LS} {i : Nat} {row : Option Nat} (h : GrowStS w wr B zs gs i) (hr : RowsS w B zs) (hB : B ≤ w.heap.size) (hg : wr.grownBy w2 row) (h1 : ∀ q, row = some q → w.heap.size ≤ q) (h2 : ∀ q, row = some q → ∀ l ∈ gs, l.val.ownBlock ≠ some q) : GrowStS w w2 B zs gs i := by
  have hlow : ∀ b, b < w.heap.size → w2.heap[b]? = wr.heap[b]? := fun b hb => hg.block b (Nat.lt_of_lt_of_le hb h.kept.below.size) fun e => by have := h1 b e.symm; omega
  refine ⟨h.len, fun a l hl => ?_, fun a y hy ha => ?_, fun a y hy => ?_, ?_⟩
  · obtain ⟨r1, r2, r3, r4⟩ := h.rows a l hl
    exact ⟨row_kept' r1 fun q hq => hg.block q (r1.lt q hq).2 fun e => h2 q e.symm l (List.mem_of_getElem? hl) hq, r2, r3, r4⟩
  · exact row_kept' (h.left a y hy ha) fun q hq => hlow q ((hr.own a y hy).lt q hq).2
  · exact spans_blocks (h.zspans a y hy) hg.size fun b off e _ => hlow b ((hr.own a y hy).lt b (by unfold LS.val; rw [e]; rfl)).2
  · exact ⟨h.kept.below.grown hg (Nat.le_trans hB h.kept.below.size) fun q e => Nat.le_trans hB (h1 q e), fun b hb hf => (hlow b hb).trans (h.kept.block b hb hf)⟩
/-- Rows of different kinds lie apart. -/
theorem rows_kindsS {w : World} {b1 b2 n1 n2 : Nat} {v1 v2 : Value} {x1 x2 : List Value} (h1 : w.ownsRow b1 52 2 v1 n1 x1) (h2 : w.ownsRow b2 42 1 v2 n2 x2) (q : Nat) (e1 : v1.ownBlock = some q) (e2 : v2.ownBlock = some q) : False := by
  rcases h1.2 with ⟨rfl, _⟩ | ⟨g1, c1, u1, rfl, _, k1, _⟩
  · cases e1
  · rcases h2.2 with ⟨rfl, _⟩ | ⟨g2, c2, u2, rfl, _, k2, _⟩
    · cases e2
    · injection e1 with e1
      injection e2 with e2
      have e1 : g1 = q := e1
      have e2 : g2 = q := e2
      subst e1
      subst e2
      rw [k1] at k2
      injection k2 with k2
      injection k2 with _ k2 _
      revert k2
      decide
end Go.Proofs.Ytnmdpbnddbccmaa
