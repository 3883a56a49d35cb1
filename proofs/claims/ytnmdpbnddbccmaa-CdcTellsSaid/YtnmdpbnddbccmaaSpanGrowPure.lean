/-
  masonrybook's lists of spans that grow: where a row lies behind an append, and what stays. No statement is proved here.
-/
import Derived.Test.YtnmdpbnddbccmaaSpanPut
import Derived.ArgAppend
import Derived.Deep.AppendLies
namespace Go.Proofs.Ytnmdpbnddbccmaa
open Go.RowKit

/-- An append to a row of one's own: in place, or in a new block with all else as it was. -/
theorem run_append_twoS {P : Program} (w : World) (t ty : TypeId) (base : Nat) (e : TypeId) (i : TypeInfo) (z : Value) (bytes : Nat) (ht : P.underlying t = some (.slice e)) (hi : P.info? e = some i) (hz : i.zero = some z)
    (hsize : i.size = 2) (hby : i.bytes = bytes) (hzs : z.cells.size = 2)
    (v : Value) (n : Nat) (xs : List Value) (hown : w.ownsRow base e 2 v n xs)
    (ad : Addr) (m c : Nat) (news : List Value) (hl : news.length = m * 2) (hnews : ∀ j u, news[j]? = some u → w.cell? (ad.add j) = some u) (h1 : ∀ u ∈ news, u.oneCell' = true)
    (hm : 0 < m) (h63 : n + m ≤ maxLen) (hbytes : (n + m) * bytes ≤ 140737488355328) (hbase : base ≤ w.heap.size) :
    ∃ g cap w', (Builtin.append_ #[t, t] ty #[v, .slice (some ad) m c]).run P w = .ok (.slice (some ⟨g, 0, none⟩) (n + m) cap) w' ∧
      w'.ownsRow base e 2 (.slice (some ⟨g, 0, none⟩) (n + m) cap) (n + m) (xs ++ news) ∧ g < w'.heap.size ∧ ((v.ownBlock = some g ∧ w.grownBy w' (some g)) ∨ (w.heap.size ≤ g ∧ w.grownBy w' none)) := by
  obtain ⟨g, cap, w', hr, h2, h3, h4, h5⟩ := run_append_lies (P := P) w t ty base e i z 2 bytes ht hi hz hsize hby hzs (by omega) v n xs hown ad m c news (by omega) hnews h1 hm h63 hbytes hbase _ rfl
  refine ⟨g, cap, w', hr, h2, h5, ?_⟩
  rcases hown.2 with ⟨rfl, rfl⟩ | ⟨g0, cap0, cur, rfl, hbg, hg, hnc, hcm, hcs, htake⟩
  · right
    rcases h4 with h4 | h4
    · cases h4
    · exact ⟨Nat.le_of_eq h4.symm, h3⟩
  · have hb0 : Blk w g0 e cur := hg
    by_cases hroom : n + m ≤ cap0
    · left
      have hr' := run_append_room_cells (P := P) w t ty e i ht hi g0 0 n cap0 ad m c news (by rw [hsize]; omega) hnews h1 hroom (fun j hj => by
        rw [hb0.cell]
        rw [hsize]
        have hlt : 0 + n * 2 + j < cur.size := by omega
        rw [Array.getElem?_eq_getElem hlt]
        rfl) (fun j hj => hb0.frozen _)
      rw [hr] at hr'
      injection hr' with e1 e2
      injection e1 with e1 _ _
      injection e1 with e1
      injection e1 with e1 _ _
      subst e1
      exact ⟨rfl, h3⟩
    · right
      obtain ⟨v', w'', hr', ho, hgb⟩ := run_append_arg_grows (P := P) w t ty e i z 2 bytes ht hi hz hsize hby hzs (by omega) ⟨g0, 0, none⟩ n cap0 xs hown.1 (hown.cells (g := g0) rfl) ad m c news (by omega) hnews (by omega) h63 hbytes
      rw [hr] at hr'
      injection hr' with e1 e2
      subst e1
      subst e2
      exact ⟨(ho.lt g rfl).1, hgb⟩

/-- A kept list that is grown: its value now, by t marks more than z's n. -/
structure GrowAtS (w1 w : World) (B : Nat) (z : LS) (i n t : Nat) (v : Value) : Prop where
  row : w.ownsRow B 52 2 v (n + t) (flatS (marksS i 0 (n + t)))
  place : v.ownBlock = z.val.ownBlock ∨ ∃ b, v.ownBlock = some b ∧ w1.heap.size ≤ b
  zspans : Spans w w.heap.size z.A z.xs
  kept : KeptS [z] B w1 w
theorem freeS_one {z : LS} {b : Nat} (h : z.val.ownBlock ≠ some b) : FreeS [z] b := fun l hl => by rw [List.mem_singleton.1 hl]; exact h
theorem GrowAtS.below {w1 w w' : World} {B : Nat} {z : LS} {i n t : Nat} {v : Value} (h : GrowAtS w1 w B z i n t v) (hB : B ≤ w.heap.size) (hb : Below w.heap.size w w') : GrowAtS w1 w' B z i n t v :=
  ⟨row_kept' h.row fun k hk => hb.block k (h.row.lt k hk).2, h.place, (h.zspans.below hb).more hb.size, h.kept.more hB hb⟩
theorem KeptS.by_own {ls : List LS} {B g : Nat} {w w' w'' : World} (h : KeptS ls B w w') (hg : w'.grownBy w'' (some g)) (hB : B ≤ g) (hB' : B ≤ w'.heap.size) (ho : (∃ l ∈ ls, l.val.ownBlock = some g) ∨ w.heap.size ≤ g) : KeptS ls B w w'' :=
  ⟨h.below.grown hg hB' (fun q e => by injection e with e; omega), fun b h1 h2 => (hg.block b (Nat.lt_of_lt_of_le h1 h.below.size) (fun e => by
    injection e with e
    subst e
    rcases ho with ⟨l, hl, hl2⟩ | ho
    · exact h2 l hl hl2
    · omega)).trans (h.block b h1 h2)⟩
theorem KeptS.by_none {ls : List LS} {B : Nat} {w w' w'' : World} (h : KeptS ls B w w') (hg : w'.grownBy w'' none) (hB' : B ≤ w'.heap.size) : KeptS ls B w w'' :=
  ⟨h.below.grown hg hB' (fun q e => by cases e), fun b h1 h2 => (hg.block b (Nat.lt_of_lt_of_le h1 h.below.size) (fun e => by cases e)).trans (h.block b h1 h2)⟩
/-- So many marks more. -/
theorem GrowAtS.append {w1 w w' : World} {B : Nat} {z : LS} {i n t m g cap : Nat} {v : Value} (h : GrowAtS w1 w B z i n t v) (hB : B ≤ w.heap.size) (hz : z.xs = marksS i 0 n) (hz0 : ∀ a, z.A = some a → a = ⟨a.block, 0, none⟩)
    (hrow : w'.ownsRow B 52 2 (.slice (some ⟨g, 0, none⟩) (n + t + m) cap) (n + t + m) (flatS (marksS i 0 (n + t)) ++ flatS (marksS i (n + t) m)))
    (hw : (v.ownBlock = some g ∧ w.grownBy w' (some g)) ∨ (w.heap.size ≤ g ∧ w.grownBy w' none)) : GrowAtS w1 w' B z i n (t + m) (.slice (some ⟨g, 0, none⟩) (n + (t + m)) cap) := by
  have hmk : flatS (marksS i 0 (n + t)) ++ flatS (marksS i (n + t) m) = flatS (marksS i 0 (n + t + m)) := by
    rw [← flatS_append]
    congr 1
    have := marksS_append i 0 (n + t) m
    rwa [Nat.zero_add] at this
  rw [hmk] at hrow
  have hsz : w.heap.size ≤ w'.heap.size := by rcases hw with ⟨_, h⟩ | ⟨_, h⟩ <;> exact h.size
  rw [show n + (t + m) = n + t + m by omega]
  refine ⟨by rw [show n + (t + m) = n + t + m by omega]; exact hrow, ?_, ?_, ?_⟩
  · rcases hw with ⟨h1, _⟩ | ⟨h1, _⟩
    · rcases h.place with h2 | ⟨b, h2, h3⟩
      · left; rw [← h2, h1]; rfl
      · right; exact ⟨b, by rw [← h2, h1]; rfl, h3⟩
    · right; exact ⟨g, rfl, Nat.le_trans h.kept.below.size h1⟩
  · intro hp
    obtain ⟨b, off, e, hb, hc⟩ := h.zspans hp
    refine ⟨b, off, e, Nat.lt_of_lt_of_le hb hsz, fun j x hx => ?_⟩
    have hx' := hx
    rw [hz] at hx'
    have hjn : j < n := by
      rcases Nat.lt_or_ge j n with h | h
      · exact h
      · rw [List.getElem?_eq_none (by rw [marksS_length]; exact h)] at hx'; cases hx'
    rw [marksS_get hjn] at hx'
    by_cases hgb : g = b
    · subst hgb
      have ho := hz0 _ e
      injection ho with _ ho _
      subst ho
      have h2 := flatS_get (marksS_get (show j < n + t + m by omega) : (marksS i 0 (n + t + m))[j]? = _)
      rw [Nat.mul_comm 2 j] at h2
      injection hx' with hx'
      rw [← hx']
      simp only [Nat.zero_add] at h2 ⊢
      exact ⟨krow_cell hrow h2.1, krow_cell hrow h2.2⟩
    · have hbk : w'.heap[b]? = w.heap[b]? := by
        rcases hw with ⟨_, h'⟩ | ⟨_, h'⟩
        · exact h'.block b hb (fun e => by injection e with e; exact hgb e.symm)
        · exact h'.block b hb (fun e => by cases e)
      exact ⟨(World.cell?_of_block (w := w) hbk).trans (hc j x hx).1, (World.cell?_of_block (w := w) hbk).trans (hc j x hx).2⟩
  · rcases hw with ⟨h1, h2⟩ | ⟨_, h2⟩
    · refine h.kept.by_own h2 ((h.row.lt g h1).1) hB ?_
      rcases h.place with h3 | ⟨b, h3, h4⟩
      · left; exact ⟨z, List.mem_singleton.2 rfl, by rw [← h3, h1]⟩
      · right
        rw [h1] at h3
        injection h3 with h3
        omega
    · exact h.kept.by_none h2 hB
end Go.Proofs.Ytnmdpbnddbccmaa
