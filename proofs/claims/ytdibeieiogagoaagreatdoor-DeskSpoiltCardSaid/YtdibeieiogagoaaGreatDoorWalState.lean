/-
  WalPlays on its way: the disk, the Wal upon it, and the home that the law keeps. No statement is proved here.
-/
import Derived.Test.YtdibeieiogagoaaGreatDoorWalWants
namespace Go.Proofs.YtdibeieiogagoaaGreatDoor
open Go.RowKit

theorem wrow_putN {w : World} {base : Nat} {e : TypeId} {size n g cap : Nat} {xs : List Value} (h : w.ownsRow base e size (.slice (some ⟨g, 0, none⟩) n cap) n xs) {i : Nat} (u : Value) : (w.setCell ⟨g, i, none⟩ u).ownsRow base e size (.slice (some ⟨g, 0, none⟩) n cap) n (xs.set i u) := by
  refine ⟨by rw [List.length_set]; exact h.1, ?_⟩
  rcases h.2 with ⟨h, _⟩ | ⟨g', cap', cur, h, hb, hg, h1, h2, h3, h4⟩
  · cases h
  · injection h with e1 _ e3
    injection e1 with e1
    injection e1 with e1 _ _
    subst e1 e3
    refine .inr ⟨g, cap, cur.setIfInBounds i u, rfl, hb, Blk.put (show Blk w g e cur from hg) i u, h1, h2, by rw [Array.size_setIfInBounds]; exact h3, ?_⟩
    rw [Array.toList_setIfInBounds, ← h4, List.take_set]
theorem wrow_cells {w : World} {base : Nat} {e : TypeId} {n c : Nat} {p : Option Addr} {l : List (Int × ByteArray)} (h : w.ownsRow base e 2 (.slice p n c) n (flatI l)) :
    0 < n → ∃ g, p = some ⟨g, 0, none⟩ ∧ base ≤ g ∧ g < w.heap.size ∧ ∀ (j : Nat) (x : Int × ByteArray), l[j]? = some x → w.cell? ⟨g, j * 2, none⟩ = some (.int .i64 x.1) ∧ w.cell? ⟨g, j * 2 + 1, none⟩ = some (.string x.2) := by
  intro hn
  obtain ⟨g, cap, e1, hb, hlt⟩ := h.form hn
  injection e1 with e1 _ e3
  subst e1 e3
  refine ⟨g, rfl, hb, hlt, fun j x hx => ?_⟩
  obtain ⟨q1, q2⟩ := flatI_get hx
  rw [Nat.mul_comm j 2]
  exact ⟨row_cell h q1, row_cell h q2⟩
theorem flatI_set {l : List (Int × ByteArray)} {j : Nat} {x y : Int × ByteArray} (h : l[j]? = some x) (he : y.1 = x.1) : flatI (l.set j y) = (flatI l).set (j * 2 + 1) (.string y.2) := by
  induction l generalizing j with
  | nil => cases h
  | cons z r ih =>
    cases j with
    | zero =>
      injection h with h
      subst h
      show Value.int .i64 y.1 :: .string y.2 :: flatI r = _
      rw [he]
      rfl
    | succ j =>
      show Value.int .i64 z.1 :: .string z.2 :: flatI (r.set j y) = _
      rw [ih (by simpa using h), show (j + 1) * 2 + 1 = (j * 2 + 1) + 2 by omega]
      rfl

/-- The law's home in a row of its own. -/
def HomeAt (W : World) (gh : Nat) (h : List ByteArray) : Prop := gh < W.heap.size ∧ ∀ (t : Nat) (x : ByteArray), h[t]? = some x → W.cell? ⟨gh, t, none⟩ = some (.string x)
theorem HomeAt.keep {W W' : World} {gh : Nat} {h : List ByteArray} {O : List Nat} (hh : HomeAt W gh h) (hk : Keep O W W') (hO : gh ∉ O) : HomeAt W' gh h :=
  ⟨Nat.lt_of_lt_of_le hh.1 hk.size, fun t x hx => (World.cell?_of_block (a := ⟨gh, t, none⟩) (hk.block gh hh.1 hO)).trans (hh.2 t x hx)⟩
theorem HomeAt.below {W W' : World} {gh : Nat} {h : List ByteArray} (hh : HomeAt W gh h) (hb : Below W.heap.size W W') : HomeAt W' gh h := hh.keep (O := []) (Keep.of_below hb) (by simp)
theorem HomeAt.txts {W : World} {gh : Nat} {h : List ByteArray} (hh : HomeAt W gh h) : Txts W W.heap.size (some ⟨gh, 0, none⟩) h := fun _ => ⟨gh, 0, rfl, hh.1, fun j x hx => by rw [Nat.zero_add]; exact hh.2 j x hx⟩
theorem HomeAt.of_txts {W : World} {gh : Nat} {h : List ByteArray} (hp : 0 < h.length) (ht : Txts W W.heap.size (some ⟨gh, 0, none⟩) h) : HomeAt W gh h := by
  obtain ⟨b, off, e, hb, hc⟩ := ht hp
  injection e with e
  injection e with e1 e2 _
  subst e1 e2
  exact ⟨hb, fun t x hx => by have := hc t x hx; rwa [Nat.zero_add] at this⟩

structure St9 (N gd : Nat) (w wr : World) (gw gh : Nat) (q k : Int) (h s : List ByteArray) (S : DS) (O : List Nat) (j : Nat) : Prop where
  disk : DiskAt wr O gd S
  clean : Clean S s
  held : Held N q h s
  left : S.left ≤ 60
  few : S.writes ≤ 1000 * j
  wal : Blk wr gw 106 (walC gd q true k)
  kk : 0 ≤ k ∧ k ≤ (j : Int)
  qj : q ≤ (j : Int)
  apart : gw ∉ O
  own : ∀ b ∈ O, w.heap.size ≤ b
  gwB : w.heap.size ≤ gw
  home : HomeAt wr gh h
  ghB : w.heap.size ≤ gh
  ghO : gh ∉ O
  ghw : gh ≠ gw
  below : Below w.heap.size w wr
section
variable {N gd : Nat} {w wr w1 w' : World} {gw gh gw' gh' : Nat} {q k q' : Int} {h s h' Z : List ByteArray} {S S' S1 : DS} {O O1 : List Nat} {j : Nat}
theorem St9.calls (t : St9 N gd w wr gw gh q k h s S O j) (hb : Below wr.heap.size wr w') : St9 N gd w w' gw gh q k h s S O j :=
  ⟨t.disk.below hb, t.clean, t.held, t.left, t.few, t.wal.below hb t.wal.lt, t.kk, t.qj, t.apart, t.own, t.gwB, t.home.below hb, t.ghB, t.ghO, t.ghw, t.below.trans (hb.mono t.below.size)⟩
theorem St9.next (t : St9 N gd w wr gw gh q k h s S O j) : St9 N gd w wr gw gh q k h s S O (j + 1) :=
  ⟨t.disk, t.clean, t.held, t.left, by have := t.few; omega, t.wal, by have := t.kk; omega, by have := t.qj; omega, t.apart, t.own, t.gwB, t.home, t.ghB, t.ghO, t.ghw, t.below⟩
theorem St9.keep {g : Nat} (t : St9 N gd w wr gw gh q k h s S O j) (hk : Keep [g] wr w') (hg : w.heap.size ≤ g) (h1 : g ∉ O) (h2 : g ≠ gw) (h3 : g ≠ gh) : St9 N gd w w' gw gh q k h s S O j :=
  ⟨t.disk.far hk (fun b hb hm => h1 ((List.mem_singleton.1 hm) ▸ hb)), t.clean, t.held, t.left, t.few, (hk.block gw t.wal.lt (fun hm => h2 (List.mem_singleton.1 hm).symm)).trans t.wal, t.kk, t.qj, t.apart, t.own, t.gwB, t.home.keep hk (fun hm => h3 (List.mem_singleton.1 hm).symm), t.ghB, t.ghO, t.ghw, t.below.trans (hk.below (fun b hb => by rw [List.mem_singleton.1 hb]; exact hg) t.below.size)⟩
/-- Behind a call on the disk that leaves it as it was but for its counter. -/
theorem St9.turned (t : St9 N gd w wr gw gh q k h s S O j) (hT : Turns O gd S' wr w') (hc : Clean S' s) (hl : S'.left ≤ 60) (hw : S'.writes = S.writes) : ∃ O', St9 N gd w w' gw gh q k h s S' O' j := by
  obtain ⟨O', d1, d2, d3⟩ := hT
  have no : ∀ {b : Nat}, b < wr.heap.size → b ∉ O → b ∉ O' := fun hb hn hm => by
    rcases d2 _ hm with h | h
    · exact hn h
    · omega
  refine ⟨O', d1, hc, t.held, hl, by rw [hw]; exact t.few, (d3.block gw t.wal.lt t.apart).trans t.wal, t.kk, t.qj, no t.wal.lt t.apart, fun b hb => ?_, t.gwB, t.home.keep d3 t.ghO, t.ghB, no t.home.1 t.ghO, t.ghw, t.below.trans (d3.below t.own t.below.size)⟩
  rcases d2 b hb with h | h
  · exact t.own b h
  · exact Nat.le_trans t.below.size h
/-- Opened anew. -/
theorem OpenedAt.st (ho : OpenedAt O1 gd gw' S' q' w1 w') (own : ∀ b ∈ O1, w.heap.size ≤ b) (hb : Below w.heap.size w w1) (hh : HomeAt w1 gh h) (hgB : w.heap.size ≤ gh) (hgO : gh ∉ O1) (hc : Clean S' Z) (hs : Held N q' h Z) (hl : S'.left ≤ 60) (hw : S'.writes ≤ 1000 * j) (hq : q' ≤ (j : Int)) : ∃ O', St9 N gd w w' gw' gh q' 0 h Z S' O' j := by
  obtain ⟨O', e1, e2, e3, e4, e5, e6⟩ := ho
  refine ⟨O', e1, hc, hs, hl, hw, e4, ⟨by omega, by omega⟩, hq, e6, fun b hm => ?_, Nat.le_trans hb.size e5, hh.keep e3 hgO, hgB, fun hm => ?_, fun e => ?_, hb.trans (e3.below own hb.size)⟩
  · rcases e2 b hm with h | h
    · exact own b h
    · exact Nat.le_trans hb.size h
  · rcases e2 gh hm with h | h
    · exact hgO h
    · have := hh.1; omega
  · have := hh.1; omega
end
end Go.Proofs.YtdibeieiogagoaaGreatDoor
