/-
  WalPlays: what a Commit leaves of all that the law keeps: told no, done, or cut short; home behind it; opened again. No statement is proved here.
-/
import Derived.Test.YtbaanoomilohhaaGreatDoorWalGo
import Derived.Test.YtbaanoomilohhaaGreatDoorPutOnce
import Derived.Test.YtbaanoomilohhaaGreatDoorHeadTellsMid
namespace Go.Proofs.YtbaanoomilohhaaGreatDoor
open Go.RowKit

def fillX (x : Wr1) : Wr1 := if x.2.size < 60 then (x.1, fillB x.2) else x
theorem fillX_fst (x : Wr1) : (fillX x).1 = x.1 := by unfold fillX; split <;> rfl
/-- The first k writes are filled. -/
def laidX (l : List Wr1) (k : Nat) : List Wr1 := (l.take k).map fillX ++ l.drop k
theorem laidX_zero (l : List Wr1) : laidX l 0 = l := by simp [laidX]
theorem laidX_length (l : List Wr1) (k : Nat) : (laidX l k).length = l.length := by simp [laidX]; omega
theorem laidX_get {l : List Wr1} {k : Nat} {x : Wr1} (h : l[k]? = some x) : (laidX l k)[k]? = some x := by
  have hk : k < l.length := by
    rcases Nat.lt_or_ge k l.length with h' | h'
    · exact h'
    · rw [List.getElem?_eq_none h'] at h; cases h
  unfold laidX
  rw [List.getElem?_append_right (by simp; omega), List.length_map, List.length_take, Nat.min_eq_left (by omega), Nat.sub_self, List.getElem?_drop, Nat.add_zero, h]
theorem laidX_cons {l : List Wr1} {k : Nat} {x : Wr1} (h : l[k]? = some x) : laidX l (k + 1) = (l.take k).map fillX ++ fillX x :: l.drop (k + 1) := by
  unfold laidX
  rw [List.take_add_one, h]
  simp
theorem laidX_step {l : List Wr1} {k : Nat} {x : Wr1} (h : l[k]? = some x) : laidX l (k + 1) = (laidX l k).set k (fillX x) := by
  have hk : k < l.length := by
    rcases Nat.lt_or_ge k l.length with h' | h'
    · exact h'
    · rw [List.getElem?_eq_none h'] at h; cases h
  rw [laidX_cons h]
  unfold laidX
  rw [List.set_append_right _ _ (by simp; omega), List.length_map, List.length_take, Nat.min_eq_left (by omega), Nat.sub_self]
  have : l.drop k = x :: l.drop (k + 1) := by
    rw [List.drop_eq_getElem_cons hk]
    rw [List.getElem?_eq_getElem hk] at h
    rw [Option.some.inj h]
  rw [this]
  rfl
theorem laidX_all (l : List Wr1) : laidX l l.length = l.map fillX := by simp [laidX]

theorem refE_through {m : Int} (r : List Wr1) : ∀ a : List Wr1, refE m a = 0 → refE m (a ++ r) = refE m r
  | [], _ => rfl
  | x :: a, h => by
    show (if 0 ≤ x.1 ∧ x.1 < m then (if x.2.size = 256 then refE m (a ++ r) else 1) else 15) = refE m r
    unfold refE at h
    split at h
    · split at h
      · rename_i h1 h2
        rw [if_pos h1, if_pos h2]
        exact refE_through r a h
      · exact absurd h (by decide)
    · exact absurd h (by decide)

structure WantAt (m : Int) (l : List Wr1) (k : Nat) (want : Int) (named : List Int) : Prop where
  ok : want = 0 → refE m ((l.take k).map fillX) = 0 ∧ named = ((l.take k).map Prod.fst).foldl (fun a x => putL x a) []
  bad : want ≠ 0 → refE m (laidX l k) = want
  few : named.length ≤ k
theorem WantAt.start (m : Int) (l : List Wr1) : WantAt m l 0 0 [] := ⟨fun _ => ⟨rfl, rfl⟩, fun h => absurd rfl h, Nat.le_refl _⟩
section
variable {m : Int} {l : List Wr1} {k : Nat} {named : List Int} {x : Wr1}
theorem WantAt.range (h : WantAt m l k 0 named) (hx : l[k]? = some x) (hr : ¬ (0 ≤ x.1 ∧ x.1 < m)) : WantAt m l (k + 1) 15 named := by
  refine ⟨fun e => absurd e (by decide), fun _ => ?_, by have := h.few; omega⟩
  rw [laidX_cons hx, refE_through _ _ (h.ok rfl).1]
  unfold refE
  rw [fillX_fst, if_neg hr]
theorem WantAt.size (h : WantAt m l k 0 named) (hx : l[k]? = some x) (hr : 0 ≤ x.1 ∧ x.1 < m) (hs : (fillX x).2.size ≠ 256) : WantAt m l (k + 1) 1 named := by
  refine ⟨fun e => absurd e (by decide), fun _ => ?_, by have := h.few; omega⟩
  rw [laidX_cons hx, refE_through _ _ (h.ok rfl).1]
  unfold refE
  rw [fillX_fst, if_pos hr, if_neg hs]
theorem WantAt.good (h : WantAt m l k 0 named) (hx : l[k]? = some x) (hr : 0 ≤ x.1 ∧ x.1 < m) (hs : (fillX x).2.size = 256) : WantAt m l (k + 1) 0 (putL x.1 named) := by
  refine ⟨fun _ => ⟨?_, ?_⟩, fun e => absurd rfl e, by have := h.few; have := putL_len x.1 named; omega⟩
  · rw [List.take_add_one, hx]
    simp only [Option.toList_some, List.map_append, List.map_cons, List.map_nil]
    rw [refE_through _ _ (h.ok rfl).1]
    unfold refE
    rw [fillX_fst, if_pos hr, if_pos hs]
    rfl
  · rw [List.take_add_one, hx]
    simp only [Option.toList_some, List.map_append, List.map_cons, List.map_nil, List.foldl_append, List.foldl_cons, List.foldl_nil]
    rw [← (h.ok rfl).2]
/-- At the end: what a commit of them refuses, or what they name. -/
theorem WantAt.done (h : WantAt m l l.length 0 named) : refE m (laidX l l.length) = 0 ∧ named = putOnce ((laidX l l.length).map Prod.fst) := by
  obtain ⟨h1, h2⟩ := h.ok rfl
  rw [List.take_length] at h1 h2
  rw [laidX_all]
  refine ⟨h1, ?_⟩
  rw [h2, putAll_once, List.map_map]
  congr 1
  refine List.map_congr_left fun x _ => ?_
  exact (fillX_fst x).symm
end
end Go.Proofs.YtbaanoomilohhaaGreatDoor

namespace Go.Proofs.YtbaanoomilohhaaGreatDoor
open Go.RowKit

theorem wrow_putN {w : World} {base : Nat} {e : TypeId} {size n g cap : Nat} {xs : List Value} (h : w.ownsRow base e size (.slice (some ⟨g, 0, none⟩) n cap) n xs) {i : Nat} (u : Value) : (w.setCell ⟨g, i, none⟩ u).ownsRow base e size (.slice (some ⟨g, 0, none⟩) n cap) n (xs.set i u) := by
  refine ⟨by rw [List.length_set]; exact h.1, ?_⟩
  rcases h.2 with ⟨h, _⟩ | ⟨g', cap', cur, h, hb, hg, h1, h2, h3, h4⟩
  · cases h
  · injection h with e1 _ e3
    injection e1 with e1
    injection e1 with e1 _ _
    subst e1 e3
    refine .inr ⟨g, cap, cur.setIfInBounds i u, rfl, hb, Blk.put (show Blk w g e cur from hg) i u, h1, h2, by rw [Array.size_setIfInBounds]; exact h3, ?_⟩
    rw [Array.toList_setIfInBounds, ← h4, List.take_set]
theorem wrow_cells {w : World} {base : Nat} {e : TypeId} {n c : Nat} {p : Option Addr} {l : List (Int × ByteArray)} (h : w.ownsRow base e 2 (.slice p n c) n (flatI l)) :
    0 < n → ∃ g, p = some ⟨g, 0, none⟩ ∧ base ≤ g ∧ g < w.heap.size ∧ ∀ (j : Nat) (x : Int × ByteArray), l[j]? = some x → w.cell? ⟨g, j * 2, none⟩ = some (.int .i64 x.1) ∧ w.cell? ⟨g, j * 2 + 1, none⟩ = some (.string x.2) := by
  intro hn
  obtain ⟨g, cap, e1, hb, hlt⟩ := h.form hn
  injection e1 with e1 _ e3
  subst e1 e3
  refine ⟨g, rfl, hb, hlt, fun j x hx => ?_⟩
  obtain ⟨q1, q2⟩ := flatI_get hx
  rw [Nat.mul_comm j 2]
  exact ⟨row_cell h q1, row_cell h q2⟩
theorem flatI_set {l : List (Int × ByteArray)} {j : Nat} {x y : Int × ByteArray} (h : l[j]? = some x) (he : y.1 = x.1) : flatI (l.set j y) = (flatI l).set (j * 2 + 1) (.string y.2) := by
  induction l generalizing j with
  | nil => cases h
  | cons z r ih =>
    cases j with
    | zero =>
      injection h with h
      subst h
      show Value.int .i64 y.1 :: .string y.2 :: flatI r = _
      rw [he]
      rfl
    | succ j =>
      show Value.int .i64 z.1 :: .string z.2 :: flatI (r.set j y) = _
      rw [ih (by simpa using h), show (j + 1) * 2 + 1 = (j * 2 + 1) + 2 by omega]
      rfl

/-- The law's home in a row of its own. -/
def HomeAt (W : World) (gh : Nat) (h : List ByteArray) : Prop := gh < W.heap.size ∧ ∀ (t : Nat) (x : ByteArray), h[t]? = some x → W.cell? ⟨gh, t, none⟩ = some (.string x)
theorem HomeAt.keep {W W' : World} {gh : Nat} {h : List ByteArray} {O : List Nat} (hh : HomeAt W gh h) (hk : Keep O W W') (hO : gh ∉ O) : HomeAt W' gh h :=
  ⟨Nat.lt_of_lt_of_le hh.1 hk.size, fun t x hx => (World.cell?_of_block (a := ⟨gh, t, none⟩) (hk.block gh hh.1 hO)).trans (hh.2 t x hx)⟩
theorem HomeAt.below {W W' : World} {gh : Nat} {h : List ByteArray} (hh : HomeAt W gh h) (hb : Below W.heap.size W W') : HomeAt W' gh h := hh.keep (O := []) (Keep.of_below hb) (by simp)
theorem HomeAt.txts {W : World} {gh : Nat} {h : List ByteArray} (hh : HomeAt W gh h) : Txts W W.heap.size (some ⟨gh, 0, none⟩) h := fun _ => ⟨gh, 0, rfl, hh.1, fun j x hx => by rw [Nat.zero_add]; exact hh.2 j x hx⟩
theorem HomeAt.of_txts {W : World} {gh : Nat} {h : List ByteArray} (hp : 0 < h.length) (ht : Txts W W.heap.size (some ⟨gh, 0, none⟩) h) : HomeAt W gh h := by
  obtain ⟨b, off, e, hb, hc⟩ := ht hp
  injection e with e
  injection e with e1 e2 _
  subst e1 e2
  exact ⟨hb, fun t x hx => by have := hc t x hx; rwa [Nat.zero_add] at this⟩

structure St9 (N gd : Nat) (w wr : World) (gw gh : Nat) (q k : Int) (h s : List ByteArray) (S : DS) (O : List Nat) (j : Nat) : Prop where
  disk : DiskAt wr O gd S
  clean : Clean S s
  held : Held N q h s
  left : S.left ≤ 60
  few : S.writes ≤ 1000 * j
  wal : Blk wr gw 66 (walC gd q true k)
  kk : 0 ≤ k ∧ k ≤ (j : Int)
  qj : q ≤ (j : Int)
  apart : gw ∉ O
  own : ∀ b ∈ O, w.heap.size ≤ b
  gwB : w.heap.size ≤ gw
  home : HomeAt wr gh h
  ghB : w.heap.size ≤ gh
  ghO : gh ∉ O
  ghw : gh ≠ gw
  below : Below w.heap.size w wr
section
variable {N gd : Nat} {w wr w1 w' : World} {gw gh gw' gh' : Nat} {q k q' : Int} {h s h' Z : List ByteArray} {S S' S1 : DS} {O O1 : List Nat} {j : Nat}
theorem St9.calls (t : St9 N gd w wr gw gh q k h s S O j) (hb : Below wr.heap.size wr w') : St9 N gd w w' gw gh q k h s S O j :=
  ⟨t.disk.below hb, t.clean, t.held, t.left, t.few, t.wal.below hb t.wal.lt, t.kk, t.qj, t.apart, t.own, t.gwB, t.home.below hb, t.ghB, t.ghO, t.ghw, t.below.trans (hb.mono t.below.size)⟩
theorem St9.next (t : St9 N gd w wr gw gh q k h s S O j) : St9 N gd w wr gw gh q k h s S O (j + 1) :=
  ⟨t.disk, t.clean, t.held, t.left, by have := t.few; omega, t.wal, by have := t.kk; omega, by have := t.qj; omega, t.apart, t.own, t.gwB, t.home, t.ghB, t.ghO, t.ghw, t.below⟩
theorem St9.keep {g : Nat} (t : St9 N gd w wr gw gh q k h s S O j) (hk : Keep [g] wr w') (hg : w.heap.size ≤ g) (h1 : g ∉ O) (h2 : g ≠ gw) (h3 : g ≠ gh) : St9 N gd w w' gw gh q k h s S O j :=
  ⟨t.disk.far hk (fun b hb hm => h1 ((List.mem_singleton.1 hm) ▸ hb)), t.clean, t.held, t.left, t.few, (hk.block gw t.wal.lt (fun hm => h2 (List.mem_singleton.1 hm).symm)).trans t.wal, t.kk, t.qj, t.apart, t.own, t.gwB, t.home.keep hk (fun hm => h3 (List.mem_singleton.1 hm).symm), t.ghB, t.ghO, t.ghw, t.below.trans (hk.below (fun b hb => by rw [List.mem_singleton.1 hb]; exact hg) t.below.size)⟩
/-- Behind a call on the disk that leaves it as it was but for its counter. -/
theorem St9.turned (t : St9 N gd w wr gw gh q k h s S O j) (hT : Turns O gd S' wr w') (hc : Clean S' s) (hl : S'.left ≤ 60) (hw : S'.writes = S.writes) : ∃ O', St9 N gd w w' gw gh q k h s S' O' j := by
  obtain ⟨O', d1, d2, d3⟩ := hT
  have no : ∀ {b : Nat}, b < wr.heap.size → b ∉ O → b ∉ O' := fun hb hn hm => by
    rcases d2 _ hm with h | h
    · exact hn h
    · omega
  refine ⟨O', d1, hc, t.held, hl, by rw [hw]; exact t.few, (d3.block gw t.wal.lt t.apart).trans t.wal, t.kk, t.qj, no t.wal.lt t.apart, fun b hb => ?_, t.gwB, t.home.keep d3 t.ghO, t.ghB, no t.home.1 t.ghO, t.ghw, t.below.trans (d3.below t.own t.below.size)⟩
  rcases d2 b hb with h | h
  · exact t.own b h
  · exact Nat.le_trans t.below.size h
/-- Opened anew. -/
theorem OpenedAt.st (ho : OpenedAt O1 gd gw' S' q' w1 w') (own : ∀ b ∈ O1, w.heap.size ≤ b) (hb : Below w.heap.size w w1) (hh : HomeAt w1 gh h) (hgB : w.heap.size ≤ gh) (hgO : gh ∉ O1) (hc : Clean S' Z) (hs : Held N q' h Z) (hl : S'.left ≤ 60) (hw : S'.writes ≤ 1000 * j) (hq : q' ≤ (j : Int)) : ∃ O', St9 N gd w w' gw' gh q' 0 h Z S' O' j := by
  obtain ⟨O', e1, e2, e3, e4, e5, e6⟩ := ho
  refine ⟨O', e1, hc, hs, hl, hw, e4, ⟨by omega, by omega⟩, hq, e6, fun b hm => ?_, Nat.le_trans hb.size e5, hh.keep e3 hgO, hgB, fun hm => ?_, fun e => ?_, hb.trans (e3.below own hb.size)⟩
  · rcases e2 b hm with h | h
    · exact own b h
    · exact Nat.le_trans hb.size h
  · rcases e2 gh hm with h | h
    · exact hgO h
    · have := hh.1; omega
  · have := hh.1; omega
end
end Go.Proofs.YtbaanoomilohhaaGreatDoor

namespace Go.Proofs.YtbaanoomilohhaaGreatDoor
open Go.RowKit

/-- Behind a Commit: the disk holds home hd, the law's own list still hm. -/
structure Off9 (N gd : Nat) (w wr : World) (gw gh : Nat) (q k : Int) (hm hd s : List ByteArray) (S : DS) (O : List Nat) (j : Nat) : Prop where
  disk : DiskAt wr O gd S
  clean : Clean S s
  held : Held N q hd s
  left : S.left ≤ 60
  few : S.writes ≤ 1000 * j
  wal : Blk wr gw 66 (walC gd q true k)
  kk : 0 ≤ k ∧ k ≤ (j : Int)
  qj : q ≤ (j : Int)
  apart : gw ∉ O
  own : ∀ b ∈ O, w.heap.size ≤ b
  gwB : w.heap.size ≤ gw
  home : HomeAt wr gh hm
  ghB : w.heap.size ≤ gh
  ghO : gh ∉ O
  ghw : gh ≠ gw
  below : Below w.heap.size w wr
/-- Behind a Commit that the power cut short. -/
structure Down9 (N gd : Nat) (w wr : World) (gw gh : Nat) (q k : Int) (h : List ByteArray) (l : List Wr1) (S : DS) (Y : List ByteArray) (O : List Nat) (j : Nat) : Prop where
  disk : DiskAt wr O gd S
  dead : Dead S Y
  left : LeftQ N q h l (putOnce (l.map Prod.fst)) Y
  few : S.writes + 700 ≤ 1000 * j
  wal : Blk wr gw 66 (walC gd q false k)
  qj : q + 1 ≤ (j : Int)
  own : ∀ b ∈ O, w.heap.size ≤ b
  home : HomeAt wr gh h
  ghB : w.heap.size ≤ gh
  ghO : gh ∉ O
  below : Below w.heap.size w wr
section
variable {N gd : Nat} {w wr w1 w' : World} {gw gh gw' gh' : Nat} {q k q' : Int} {h hm hd s h' Z Y : List ByteArray} {l : List Wr1} {S S' S1 : DS} {O O1 : List Nat} {j : Nat}
theorem Off9.calls (t : Off9 N gd w wr gw gh q k hm hd s S O j) (hb : Below wr.heap.size wr w') : Off9 N gd w w' gw gh q k hm hd s S O j :=
  ⟨t.disk.below hb, t.clean, t.held, t.left, t.few, t.wal.below hb t.wal.lt, t.kk, t.qj, t.apart, t.own, t.gwB, t.home.below hb, t.ghB, t.ghO, t.ghw, t.below.trans (hb.mono t.below.size)⟩
theorem Off9.on (t : Off9 N gd w wr gw gh q k h h s S O j) : St9 N gd w wr gw gh q k h s S O j := ⟨t.disk, t.clean, t.held, t.left, t.few, t.wal, t.kk, t.qj, t.apart, t.own, t.gwB, t.home, t.ghB, t.ghO, t.ghw, t.below⟩
theorem Off9.homed (t : Off9 N gd w wr gw gh q k hm hd s S O j) {g : Nat} (hb : Below wr.heap.size wr w') (hg : wr.heap.size ≤ g) (hh : HomeAt w' g hd) : St9 N gd w w' gw g q k hd s S O j :=
  ⟨t.disk.below hb, t.clean, t.held, t.left, t.few, t.wal.below hb t.wal.lt, t.kk, t.qj, t.apart, t.own, t.gwB, hh, Nat.le_trans t.below.size hg, fun hm => by have := t.disk.lt hm; omega, fun e => by have := t.wal.lt; omega, t.below.trans (hb.mono t.below.size)⟩
theorem Down9.calls (t : Down9 N gd w wr gw gh q k h l S Y O j) (hb : Below wr.heap.size wr w') : Down9 N gd w w' gw gh q k h l S Y O j :=
  ⟨t.disk.below hb, t.dead, t.left, t.few, t.wal.below hb t.wal.lt, t.qj, t.own, t.home.below hb, t.ghB, t.ghO, t.below.trans (hb.mono t.below.size)⟩
theorem St9.around (t : St9 N gd w wr gw gh q k h s S O j) (d2 : ∀ b ∈ O1, b ∈ O ∨ wr.heap.size ≤ b) (d3 : Keep (gw :: O) wr w') : gw ∉ O1 ∧ (∀ b ∈ O1, w.heap.size ≤ b) ∧ HomeAt w' gh h ∧ gh ∉ O1 ∧ Below w.heap.size w w' := by
  have no : ∀ {b : Nat}, b < wr.heap.size → b ∉ O → b ∉ O1 := fun hb hn hm => by
    rcases d2 _ hm with h | h
    · exact hn h
    · omega
  have own : ∀ b ∈ gw :: O, w.heap.size ≤ b := fun b hb => by
    rcases List.mem_cons.1 hb with rfl | hb
    · exact t.gwB
    · exact t.own b hb
  refine ⟨no t.wal.lt t.apart, fun b hb => ?_, t.home.keep d3 (fun hm => ?_), no t.home.1 t.ghO, t.below.trans (d3.below own t.below.size)⟩
  · rcases d2 b hb with h | h
    · exact t.own b h
    · exact Nat.le_trans t.below.size h
  · rcases List.mem_cons.1 hm with h | h
    · exact t.ghw h
    · exact t.ghO h

theorem lent_wrts {W : World} {B g cap : Nat} {xs : List Wr1} (h : LentW W B g cap xs) (hO : ∀ b ∈ O, b < B) : Wrts W O (some ⟨g, 0, none⟩) xs := fun hp => by
  obtain ⟨b, off, e, hb, hc⟩ := h.wrts hp
  refine ⟨b, off, e, hb, fun hm => ?_, hc⟩
  injection e with e
  injection e with e1 _ _
  have := hO b hm
  have := h.1
  omega

/-- What the law asks of a Commit. -/
def Asks (m : Int) (l : List Wr1) (e0 : Int) : Prop :=
  (e0 ≠ 0 ∧ (refE m l = e0 ∨ (refE m l = 0 ∧ 110 < (putOnce (l.map Prod.fst)).length ∧ e0 = 21))) ∨ (e0 = 0 ∧ refE m l = 0 ∧ (putOnce (l.map Prod.fst)).length ≤ 110)

theorem commitR_left (S : DS) (q k : Int) (l : List Wr1) : (commitR S q k l).S.left ≤ S.left := by
  unfold commitR
  split
  · exact Nat.le_refl _
  · split
    · exact Nat.le_refl _
    · split
      · exact Nat.le_refl _
      · split
        · exact putS_left _ _
        · exact putS_left _ _
/-- A Commit, of all that the law keeps. -/
theorem commit9 {B5 g5 cap5 nw : Nat} {e0 : Int} (t : St9 N gd w wr gw gh q k h s S O j) (hj : j < 30) (hL : LentW wr B5 g5 cap5 l) (hB : ∀ b ∈ O, b < B5) (hn : l.length = nw) (hnw : nw ≤ 6000) (ha : Asks ((N : Int) - 111) l e0) :
    Calls Tryz.prog 12 #[.pointer (some ⟨gw, 0, none⟩), .slice (some ⟨g5, 0, none⟩) nw cap5] wr fun e w' => ∃ E, e = .returned (.int .i64 E) ∧ Keep (gw :: O) wr w' ∧
      ((e0 ≠ 0 ∧ E = e0 ∧ ∃ O', St9 N gd w w' gw gh q k h s S O' (j + 1)) ∨
       (e0 = 0 ∧ E = 0 ∧ ∃ q' k' s' S' O', (0 < nw → q' = q + 1) ∧ (nw = 0 → q' = q) ∧ Off9 N gd w w' gw gh q' k' h (setI h l) s' S' O' (j + 1)) ∨
       (e0 = 0 ∧ E = 14 ∧ ∃ S' Y O', (∀ b ∈ O', b ∈ O ∨ wr.heap.size ≤ b) ∧ Down9 N gd w w' gw gh q k h l S' Y O' (j + 1))) := by
  have hc := commit_ways (l := l) (k := k) t.clean t.held (by have := t.qj; omega)
  have hd := t.held.dim
  have hln : S.now.length = N := by rw [t.clean.now, t.held.len]
  refine (wcommit_any (some ⟨g5, 0, none⟩) l t.wal t.disk t.clean.ok t.apart (by omega) (by omega) ⟨t.held.seq.1, by have := t.held.seq.2; omega⟩ ⟨t.kk.1, by have := t.kk.2; omega⟩ hn (lent_wrts hL hB) (by omega) (by have := t.left; omega) (by have := t.few; omega) (by rw [t.clean.dirty]; decide)).mono ?_
  rintro e w' ⟨rfl, O', d1, d2, d3, d4⟩
  obtain ⟨n1, n2, n3, n4, n5⟩ := t.around d2 d3
  refine ⟨_, rfl, d3, ?_⟩
  have hlf0 := commitR_left S q k l
  generalize commitR S q k l = R at hc d1 d4 hlf0 ⊢
  cases hc with
  | no e he hr =>
    left
    have hne : e0 ≠ 0 ∧ e = e0 := by
      rcases ha with ⟨h0, h1 | ⟨h1, h2, h3⟩⟩ | ⟨h0, h1, h2⟩
      · refine ⟨h0, ?_⟩
        rcases hr with h | ⟨h, _⟩
        · rw [← h, h1]
        · rw [h] at h1; exact absurd h1.symm h0
      · refine ⟨h0, ?_⟩
        rcases hr with h | ⟨_, _, h⟩
        · rw [h] at h1; exact absurd h1 he
        · rw [h, h3]
      · rcases hr with h | ⟨_, h, _⟩
        · rw [h1] at h; exact absurd h.symm he
        · omega
    exact ⟨hne.1, hne.2, O', d1, t.clean, t.held, t.left, by have := t.few; omega, d4, by have := t.kk; omega, by have := t.qj; omega, n1, n2, t.gwB, n3, t.ghB, n4, t.ghw, n5⟩
  | none hl =>
    right; left
    have h0 : e0 = 0 := by
      subst hl
      rcases ha with ⟨h0, h1 | ⟨h1, h2, h3⟩⟩ | ⟨h0, h1, h2⟩
      · exact absurd h1.symm h0
      · have : (putOnce (([] : List Wr1).map Prod.fst)).length = 0 := by rw [← putAll_once]; rfl
        omega
      · exact h0
    have hn0 : nw = 0 := by rw [← hn, hl]; rfl
    refine ⟨h0, rfl, q, k, s, S, O', fun h => by omega, fun _ => rfl, d1, t.clean, ?_, t.left, by have := t.few; omega, d4, by have := t.kk; omega, by have := t.qj; omega, n1, n2, t.gwB, n3, t.ghB, n4, t.ghw, n5⟩
    rw [hl]
    exact t.held
  | done S' s' hp hr hf hcl hh hok hw =>
    right; left
    have h0 : e0 = 0 := by
      rcases ha with ⟨h0, h1 | ⟨h1, h2, h3⟩⟩ | ⟨h0, h1, h2⟩
      · rw [hr] at h1; exact absurd h1.symm h0
      · omega
      · exact h0
    have hlf : S'.left ≤ 60 := Nat.le_trans hlf0 t.left
    exact ⟨h0, rfl, q + 1, k + 1, s', S', O', fun _ => rfl, fun h => by omega, d1, hcl, hh, hlf, by have := t.few; show S'.writes ≤ _; omega, d4, by have := t.kk; omega, by have := t.qj; omega, n1, n2, t.gwB, n3, t.ghB, n4, t.ghw, n5⟩
  | gone S' Y hp hr hf hdd hh hok hw =>
    right; right
    have h0 : e0 = 0 := by
      rcases ha with ⟨h0, h1 | ⟨h1, h2, h3⟩⟩ | ⟨h0, h1, h2⟩
      · rw [hr] at h1; exact absurd h1.symm h0
      · omega
      · exact h0
    exact ⟨h0, rfl, S', Y, O', d2, d1, hdd, hh, by have := t.few; show S'.writes + 700 ≤ _; omega, d4, by have := t.qj; omega, n2, n3, t.ghB, n4, n5⟩

/-- Opened again. -/
theorem again9 (t : Down9 N gd w wr gw gh q k h l S Y O j) (hj : j ≤ 30) (hhl : h.length = N - 111) : Calls Tryz.prog 18 #[.pointer (some ⟨gd, 0, none⟩)] wr fun e w' => ∃ g, e = .returned (.pointer (some ⟨g, 0, none⟩)) ∧ Keep O wr w' ∧
    ∃ q' h' Z S' O', Off9 N gd w w' g gh q' 0 h h' Z S' O' j ∧ (h' = h ∨ h' = setI h l) := by
  refine (again_leftQ t.disk t.dead t.left (by have := t.few; omega)).mono ?_
  rintro e w' ⟨g, rfl, Z, wz, q', h', ⟨O', e1, e2, e3, e4, e5, e6⟩, hh, hq, hwz⟩
  have no : gh ∉ O' := fun hm => by
    rcases e2 gh hm with h | h
    · exact t.ghO h
    · have := t.home.1; omega
  refine ⟨g, rfl, e3, q', h', Z, _, O', ⟨e1, clean_calm _ _, hh, by show (0 : Nat) ≤ 60; omega, by have := t.few; show wz ≤ _; omega, e4, ⟨by omega, by omega⟩, ?_, e6, fun b hm => ?_, Nat.le_trans t.below.size e5, t.home.keep e3 t.ghO, t.ghB, no, fun e => by have := t.home.1; omega, t.below.trans (e3.below t.own t.below.size)⟩, ?_⟩
  · have := t.qj
    rcases hq with ⟨rfl, _⟩ | ⟨rfl, _⟩ <;> omega
  · rcases e2 b hm with h | h
    · exact t.own b h
    · exact Nat.le_trans t.below.size h
  · rcases hq with ⟨_, rfl⟩ | ⟨_, rfl⟩
    · exact .inl rfl
    · exact .inr rfl

/-- Home behind the writes. -/
theorem after9 (t : Off9 N gd w wr gw gh q k h (setI h l) s S O j) {nw : Nat} {ch cl : Nat} {A : Option Addr} (hh : h.length = N - 111) (hn : l.length = nw) (hnw : nw ≤ 6000) (hw : WIn wr A l) (hr : ∀ x ∈ l, 0 ≤ x.1 ∧ x.1 < (N : Int) - 111) :
    Calls Tryz.prog 14 #[.slice (some ⟨gh, 0, none⟩) (N - 111) ch, .slice A nw cl] wr fun e w' => ∃ g cap, e = .returned (.slice (some ⟨g, 0, none⟩) (N - 111) cap) ∧ St9 N gd w w' gw g q k (setI h l) s S O j := by
  have hd := t.held.dim
  have h0 : 0 < h.length := by omega
  have := after_any wr ⟨gh, 0, none⟩ ch h t.home.txts h0 (by omega) A cl l [] (fun hp => by
    obtain ⟨b, off, e, hb, hc⟩ := hw hp
    exact ⟨b, off, e, hb, by simp, hc⟩) (by omega) (fun x hx => by have := hr x hx; omega)
  rw [hh, hn] at this
  refine this.mono ?_
  rintro e w' ⟨g, cap, rfl, hg, ht, hb⟩
  exact ⟨g, cap, rfl, t.homed hb hg (HomeAt.of_txts (by rw [setI_length]; exact h0) ht)⟩

/-- Is home as it was? If so, whatever the disk holds is that. -/
theorem is9 (t : Off9 N gd w wr gw gh q k h h' s S O j) (hh : h.length = N - 111) (c : Nat) :
    Calls Tryz.prog 19 #[.pointer (some ⟨gw, 0, none⟩), .slice (some ⟨gh, 0, none⟩) (N - 111) c] wr fun e w' => (∃ r : Bool, e = .returned (.bool r) ∧ (r = true → h' = h) ∧ (r = false → h' ≠ h)) ∧ Below wr.heap.size wr w' := by
  have hd := t.held.dim
  have := is_any t.wal t.disk t.clean.on (n := N) (by rw [t.clean.now, t.held.len]) (by omega) (by omega) (fun x hx => by rw [t.clean.now] at hx; have := t.held.small x hx; omega) (some ⟨gh, 0, none⟩) c h t.home.txts hh
  rw [hh] at this
  refine this.mono ?_
  rintro e w' ⟨⟨r, rfl, hr⟩, hb⟩
  have key : IsHome S.now h ↔ h' = h := by
    rw [t.clean.now]
    constructor
    · intro hi
      refine List.ext_getElem? fun i => ?_
      by_cases hlt : i < N - 111
      · rw [← t.held.home i hlt]
        exact hi i (by omega)
      · rw [List.getElem?_eq_none (by rw [t.held.hlen]; omega), List.getElem?_eq_none (by omega)]
    · rintro rfl
      intro i hi
      exact t.held.home i (by omega)
  exact ⟨⟨r, rfl, fun h1 => key.1 (hr.1 h1), fun h1 h2 => by
    have := hr.2 (key.2 h2)
    rw [h1] at this
    cases this⟩, hb⟩
end
end Go.Proofs.YtbaanoomilohhaaGreatDoor
