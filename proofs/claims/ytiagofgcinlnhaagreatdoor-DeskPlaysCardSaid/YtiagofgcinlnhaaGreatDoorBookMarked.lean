/-
  masonrybook's lists of numbers that are kept: are all marked? No statement is proved here.
-/
import Derived.Test.YtiagofgcinlnhaaGreatDoorRoomMore
import Derived.ArgAppend
import Derived.Deep.AppendLies
import Derived.Test.YtiagofgcinlnhaaGreatDoorHeadParse
namespace Go.Proofs.YtiagofgcinlnhaaGreatDoor
open Go.RowKit
structure GrowAt (w1 w : World) (B : Nat) (z : LI) (i n t : Nat) (v : Value) : Prop where
  row : w.ownsRow B 3 1 v (n + t) ((marksOf i 0 (n + t)).map (Value.int .i64))
  place : v.ownBlock = z.val.ownBlock ∨ ∃ b, v.ownBlock = some b ∧ w1.heap.size ≤ b
  zints : Ints w w.heap.size z.A z.xs
  kept : KeptBut [z] B w1 w
theorem freeOf_one {z : LI} {b : Nat} (h : z.val.ownBlock ≠ some b) : FreeOf [z] b := fun l hl => by rw [List.mem_singleton.1 hl]; exact h
theorem GrowAt.below {w1 w w' : World} {B : Nat} {z : LI} {i n t : Nat} {v : Value} (h : GrowAt w1 w B z i n t v) (hB : B ≤ w.heap.size) (hb : Below w.heap.size w w') : GrowAt w1 w' B z i n t v :=
  ⟨row_kept' h.row fun k hk => hb.block k (h.row.lt k hk).2, h.place, (h.zints.below hb).more hb.size, h.kept.more hB hb⟩
theorem KeptBut.by_own {ls : List LI} {B g : Nat} {w w' w'' : World} (h : KeptBut ls B w w') (hg : w'.grownBy w'' (some g)) (hB : B ≤ g) (hB' : B ≤ w'.heap.size) (ho : (∃ l ∈ ls, l.val.ownBlock = some g) ∨ w.heap.size ≤ g) : KeptBut ls B w w'' :=
  ⟨h.below.grown hg hB' (fun q e => by injection e with e; omega), fun b h1 h2 => (hg.block b (Nat.lt_of_lt_of_le h1 h.below.size) (fun e => by
    injection e with e
    subst e
    rcases ho with ⟨l, hl, hl2⟩ | ho
    · exact h2 l hl hl2
    · omega)).trans (h.block b h1 h2)⟩
theorem KeptBut.by_none {ls : List LI} {B : Nat} {w w' w'' : World} (h : KeptBut ls B w w') (hg : w'.grownBy w'' none) (hB' : B ≤ w'.heap.size) : KeptBut ls B w w'' :=
  ⟨h.below.grown hg hB' (fun q e => by cases e), fun b h1 h2 => (hg.block b (Nat.lt_of_lt_of_le h1 h.below.size) (fun e => by cases e)).trans (h.block b h1 h2)⟩
theorem GrowAt.append {w1 w w' : World} {B : Nat} {z : LI} {i n t m g cap : Nat} {v : Value} (h : GrowAt w1 w B z i n t v) (hB : B ≤ w.heap.size) (hz : z.xs = marksOf i 0 n) (hz0 : ∀ a, z.A = some a → a = ⟨a.block, 0, none⟩)
    (hrow : w'.ownsRow B 3 1 (.slice (some ⟨g, 0, none⟩) (n + t + m) cap) (n + t + m) ((marksOf i 0 (n + t)).map (Value.int .i64) ++ (marksOf i (n + t) m).map (Value.int .i64)))
    (hw : (v.ownBlock = some g ∧ w.grownBy w' (some g)) ∨ (w.heap.size ≤ g ∧ w.grownBy w' none)) : GrowAt w1 w' B z i n (t + m) (.slice (some ⟨g, 0, none⟩) (n + (t + m)) cap) := by
  have hmk : (marksOf i 0 (n + t)).map (Value.int .i64) ++ (marksOf i (n + t) m).map (Value.int .i64) = (marksOf i 0 (n + t + m)).map (Value.int .i64) := by
    rw [← List.map_append]
    congr 1
    have := marksOf_append i 0 (n + t) m
    rwa [Nat.zero_add] at this
  rw [hmk] at hrow
  have hsz : w.heap.size ≤ w'.heap.size := by rcases hw with ⟨_, h⟩ | ⟨_, h⟩ <;> exact h.size
  rw [show n + (t + m) = n + t + m by omega]
  refine ⟨by rw [show n + (t + m) = n + t + m by omega]; exact hrow, ?_, ?_, ?_⟩
  · rcases hw with ⟨h1, _⟩ | ⟨h1, _⟩
    · rcases h.place with h2 | ⟨b, h2, h3⟩
      · left; rw [← h2, h1]; rfl
      · right; exact ⟨b, by rw [← h2, h1]; rfl, h3⟩
    · right; exact ⟨g, rfl, Nat.le_trans h.kept.below.size h1⟩
  · intro hp
    obtain ⟨b, off, e, hb, hc⟩ := h.zints hp
    refine ⟨b, off, e, Nat.lt_of_lt_of_le hb hsz, fun j x hx => ?_⟩
    have hx' := hx
    rw [hz] at hx'
    have hjn : j < n := by
      rcases Nat.lt_or_ge j n with h | h
      · exact h
      · rw [List.getElem?_eq_none (by rw [marksOf_length]; exact h)] at hx'; cases hx'
    rw [marksOf_get hjn] at hx'
    by_cases hgb : g = b
    · subst hgb
      have ho := hz0 _ e
      injection ho with _ ho _
      subst ho
      have := krow_cell hrow (i := j) (u := .int .i64 (markAt i (0 + j))) (by rw [List.getElem?_map, marksOf_get (by omega)]; rfl)
      injection hx' with hx'
      rw [← hx']
      simp only [Nat.zero_add] at this ⊢
      exact this
    · have hbk : w'.heap[b]? = w.heap[b]? := by
        rcases hw with ⟨_, h'⟩ | ⟨_, h'⟩
        · exact h'.block b hb (fun e => by injection e with e; exact hgb e.symm)
        · exact h'.block b hb (fun e => by cases e)
      rw [World.cell?_of_block (w := w) hbk]
      exact hc j x hx
  · rcases hw with ⟨h1, h2⟩ | ⟨_, h2⟩
    · refine h.kept.by_own h2 ((h.row.lt g h1).1) hB ?_
      rcases h.place with h3 | ⟨b, h3, h4⟩
      · left; exact ⟨z, List.mem_singleton.2 rfl, by rw [← h3, h1]⟩
      · right
        rw [h1] at h3
        injection h3 with h3
        omega
    · exact h.kept.by_none h2 hB
structure GrowSt (w wr : World) (B : Nat) (zs gs : List LI) (i : Nat) : Prop where
  len : gs.length = i
  rows : ∀ (a : Nat) (l : LI), gs[a]? = some l → wr.ownsRow B 3 1 l.val l.xs.length (l.xs.map (Value.int .i64)) ∧ l.xs = marksOf a 0 l.xs.length ∧ l.xs.length ≤ 1000000 ∧ ((∃ z, zs[a]? = some z ∧ l.val.ownBlock = z.val.ownBlock) ∨ ∃ b, l.val.ownBlock = some b ∧ w.heap.size ≤ b)
  left : ∀ (a : Nat) (z : LI), zs[a]? = some z → i ≤ a → wr.ownsRow B 3 1 z.val z.xs.length (z.xs.map (Value.int .i64))
  zints : ∀ (a : Nat) (z : LI), zs[a]? = some z → Ints wr wr.heap.size z.A z.xs
  kept : KeptBut zs B w wr
theorem ints_blocks {w w' : World} {A : Option Addr} {xs : List Int} (h : Ints w w.heap.size A xs) (hs : w.heap.size ≤ w'.heap.size) (hb : ∀ b off, A = some ⟨b, off, none⟩ → b < w.heap.size → w'.heap[b]? = w.heap[b]?) : Ints w' w'.heap.size A xs := fun hp => by
  obtain ⟨b, off, e, hbl, hc⟩ := h hp
  exact ⟨b, off, e, Nat.lt_of_lt_of_le hbl hs, fun j x hx => (World.cell?_of_block (w := w) (hb b off e hbl)).trans (hc j x hx)⟩
theorem GrowSt.start {w : World} {B : Nat} {zs : List LI} (hr : RowsI w B zs) (hz : ∀ (a : Nat) (z : LI), zs[a]? = some z → Ints w w.heap.size z.A z.xs) : GrowSt w w B zs [] 0 :=
  ⟨rfl, fun a l h => by simp at h, fun a z h _ => hr.own a z h, hz, KeptBut.refl _ _ _⟩
theorem GrowSt.next {w wr w2 : World} {B : Nat} {zs gs : List LI} {i n t g cap : Nat} {z : LI} (h : GrowSt w wr B zs gs i) (hr : RowsI w B zs) (hz : zs[i]? = some z) (hnt : n + t ≤ 1000000)
    (hg : GrowAt wr w2 B z i n t (.slice (some ⟨g, 0, none⟩) (n + t) cap)) : GrowSt w w2 B zs (gs ++ [⟨some ⟨g, 0, none⟩, cap, marksOf i 0 (n + t)⟩]) (i + 1) := by
  have hzb : ∀ b, z.val.ownBlock = some b → b < w.heap.size := fun b hb => ((hr.own i z hz).lt b hb).2
  have hfar : ∀ b, b < wr.heap.size → z.val.ownBlock ≠ some b → w2.heap[b]? = wr.heap[b]? := fun b h1 h2 => hg.kept.block b h1 (freeOf_one h2)
  refine ⟨by rw [List.length_append, h.len]; rfl, fun a l hl => ?_, fun a y hy ha => ?_, fun a y hy => ?_, ?_⟩
  · rcases Nat.lt_or_ge a gs.length with ha | ha
    · rw [List.getElem?_append_left ha] at hl
      obtain ⟨r1, r2, r3, r4⟩ := h.rows a l hl
      refine ⟨row_kept' r1 fun q hq => hfar q (r1.lt q hq).2 fun e => ?_, r2, r3, r4⟩
      rcases r4 with ⟨y, hy, h4⟩ | ⟨b, h4, h5⟩
      · rw [h4] at hq
        exact hr.apart a i y z q hy hz (by rw [h.len] at ha; omega) hq e
      · rw [h4] at hq
        injection hq with hq
        subst hq
        have := hzb _ e
        omega
    · have ha' : a = i := by
        rw [List.getElem?_append_right ha] at hl
        rcases Nat.eq_or_lt_of_le ha with e | e
        · rw [← e, h.len]
        · rw [List.getElem?_eq_none (by simp; omega)] at hl; cases hl
      subst ha'
      rw [List.getElem?_append_right ha, h.len, Nat.sub_self] at hl
      injection hl with hl
      subst hl
      refine ⟨?_, by simp only [marksOf_length], by simp only [marksOf_length]; exact hnt, ?_⟩
      · unfold LI.val
        simp only [marksOf_length]
        exact hg.row
      · rcases hg.place with h5 | ⟨b, h5, h6⟩
        · left
          refine ⟨z, hz, ?_⟩
          rw [← h5]
          rfl
        · right
          refine ⟨b, ?_, Nat.le_trans h.kept.below.size h6⟩
          rw [← h5]
          rfl
  · have ho := h.left a y hy (by omega)
    exact row_kept' ho fun q hq => hfar q (ho.lt q hq).2 fun e => hr.apart a i y z q hy hz (by omega) hq e
  · by_cases hai : a = i
    · subst hai
      rw [hz] at hy
      cases hy
      exact hg.zints
    · refine ints_blocks (h.zints a y hy) hg.kept.below.size fun b off e hb => hfar b hb fun e2 => hr.apart a i y z b hy hz hai (by unfold LI.val; rw [e]; rfl) e2
  · refine ⟨h.kept.below.trans hg.kept.below, fun b h1 h2 => ?_⟩
    exact (hfar b (Nat.lt_of_lt_of_le h1 h.kept.below.size) (h2 z (List.mem_of_getElem? hz))).trans (h.kept.block b h1 h2)
theorem GrowSt.grown {w wr w2 : World} {B : Nat} {zs gs : List LI} {i : Nat} {row : Option Nat} (h : GrowSt w wr B zs gs i) (hr : RowsI w B zs) (hB : B ≤ w.heap.size) (hg : wr.grownBy w2 row) (h1 : ∀ q, row = some q → w.heap.size ≤ q) (h2 : ∀ q, row = some q → ∀ l ∈ gs, l.val.ownBlock ≠ some q) : GrowSt w w2 B zs gs i := by
  have hlow : ∀ b, b < w.heap.size → w2.heap[b]? = wr.heap[b]? := fun b hb => hg.block b (Nat.lt_of_lt_of_le hb h.kept.below.size) fun e => by have := h1 b e.symm; omega
  refine ⟨h.len, fun a l hl => ?_, fun a y hy ha => ?_, fun a y hy => ?_, ?_⟩
  · obtain ⟨r1, r2, r3, r4⟩ := h.rows a l hl
    exact ⟨row_kept' r1 fun q hq => hg.block q (r1.lt q hq).2 fun e => h2 q e.symm l (List.mem_of_getElem? hl) hq, r2, r3, r4⟩
  · exact row_kept' (h.left a y hy ha) fun q hq => hlow q ((hr.own a y hy).lt q hq).2
  · exact ints_blocks (h.zints a y hy) hg.size fun b off e _ => hlow b ((hr.own a y hy).lt b (by unfold LI.val; rw [e]; rfl)).2
  · exact ⟨h.kept.below.grown hg (Nat.le_trans hB h.kept.below.size) fun q e => Nat.le_trans hB (h1 q e), fun b hb hf => (hlow b hb).trans (h.kept.block b hb hf)⟩
structure MJ (W : World) (b off k cR j : Nat) (A : Option Addr) (n c : Nat) (L : Nat → Bool) (f : Nat → Value) (w' : World) : Prop where
  f0 : L 0 = true → f 0 = .slice (some ⟨b, off, none⟩) k cR
  f1 : L 1 = true → f 1 = .int .i64 (j : Int)
  f2 : L 2 = true → f 2 = .pointer (some ⟨b, off + j, none⟩)
  f3 : L 3 = true → f 3 = .slice A n c
  f4 : L 4 = true → f 4 = .int .i64 (j : Int)
  f5 : L 5 = true → f 5 = .slice (some ⟨b, off, none⟩) k cR
  f6 : L 6 = true → f 6 = .int .i64 (j : Int)
  f7 : L 7 = true → f 7 = .pointer (some ⟨b, off + j, none⟩)
  f8 : L 8 = true → f 8 = .slice A n c
  f9 : L 9 = true → f 9 = .int .i64 (n : Int)
  f10 : L 10 = true → ∃ mp mc, f 10 = .slice mp n mc ∧ Ints w' w'.heap.size mp (marksOf j 0 n)
  f11 : L 11 = true → f 11 = .bool true
  c11 : L 11 = true → L 10 = true
  below : Below W.heap.size W w'
end Go.Proofs.YtiagofgcinlnhaaGreatDoor
