/-
  BitsSizes: what holds of the region that draws its order, whatever of it is done. No statement is proved here.
-/
import Derived.Test.YtdfickppfihiiaaDoorDrawn
import Derived.Test.YtdfickppfihiiaaDoorAlive
namespace Go.Proofs.YtdfickppfihiiaaDoor
open Go.RowKit

/-- The slot that operation i writes. -/
def szDst (i : Nat) : Nat := if i < 19 then 24 + i else if i = 19 then 23 else if i < 22 then 23 + i else i - 16
def szStep (A B : Int) (Z : ByteArray) (k : Nat) (s : Wr) : Wr :=
  match k with
  | 0 => s.nums 1 [A, 1]
  | 1 => s.nums 2 [B]
  | 2 => s.nums 4 [1, 2]
  | 3 => s.nums 8 [3]
  | _ => s.texts [Z]
/-- The writer behind k calls. -/
def szSt (A B : Int) (Z : ByteArray) : Nat → Wr
  | 0 => ⟨[], 0⟩
  | k + 1 => szStep A B Z k (szSt A B Z k)

/-- A slice of a block of the region's own. -/
def Has (w : World) (o : Nat) (t : TypeId) (cs : Array Value) (v : Value) : Prop := ∃ g, v = .slice (some ⟨g, 0, none⟩) cs.size cs.size ∧ o < g ∧ Blk w g t cs
theorem Has.grown {w w' : World} {o : Nat} {t : TypeId} {cs : Array Value} {v : Value} (h : Has w o t cs v) (hg : w.grownBy w' (some o)) : Has w' o t cs v := by
  obtain ⟨g, rfl, h1, h2⟩ := h
  exact ⟨g, rfl, h1, h2.grown hg (fun e => by injection e; omega)⟩
theorem Has.new (w : World) (o : Nat) (t : TypeId) (cs : Array Value) (ho : o < w.heap.size) : Has (w.alloc (.cells cs t)) o t cs (.slice (some ⟨w.heap.size, 0, none⟩) cs.size cs.size) :=
  ⟨_, rfl, ho, Blk.new w t cs⟩
theorem Has.ints {w : World} {o : Nat} {xs : List Int} {v : Value} (h : Has w o 3 (xs.map (Value.int .i64)).toArray v) : ∃ g, v = .slice (some ⟨g, 0, none⟩) xs.length xs.length ∧ Ints w w.heap.size (some ⟨g, 0, none⟩) xs := by
  obtain ⟨g, rfl, h1, h2⟩ := h
  refine ⟨g, by simp, fun _ => ⟨g, 0, rfl, h2.lt, fun j x hx => ?_⟩⟩
  rw [h2.cell (0 + j)]
  simp [hx]
theorem Has.txts {w : World} {o : Nat} {xs : List ByteArray} {v : Value} (h : Has w o 9 (xs.map Value.string).toArray v) : ∃ g, v = .slice (some ⟨g, 0, none⟩) xs.length xs.length ∧ Txts w w.heap.size (some ⟨g, 0, none⟩) xs := by
  obtain ⟨g, rfl, h1, h2⟩ := h
  refine ⟨g, by simp, fun _ => ⟨g, 0, rfl, h2.lt, fun j x hx => ?_⟩⟩
  rw [h2.cell (0 + j)]
  simp [hx]

section
variable (o : Nat) (a n A B : Int) (Z : ByteArray)
/-- What operation i leaves in its slot. -/
def szFact (w : World) (i : Nat) (v : Value) : Prop :=
  match i with
  | 0 | 4 | 8 | 10 | 12 | 17 => v = .pointer (some ⟨o, 0, none⟩)
  | 1 | 5 => v = .int .i64 a
  | 2 => v = .int .i64 A
  | 3 => Has w o 3 ([A, 1].map (Value.int .i64)).toArray v
  | 6 => v = .int .i64 B
  | 7 => Has w o 3 ([B].map (Value.int .i64)).toArray v
  | 9 => Has w o 3 ([1, 2].map (Value.int .i64)).toArray v
  | 11 => Has w o 3 ([3].map (Value.int .i64)).toArray v
  | 13 => v = .int .i64 n
  | 14 => Has w o 5 (Lib.byteCells Z.data.toList).toArray v
  | 15 => v = .string Z
  | 16 => Has w o 9 ([Z].map Value.string).toArray v
  | 18 | 19 => v = .tuple #[.string ⟨(szSt A B Z 5).l.toArray⟩, .int .i64 (szSt A B Z 5).e]
  | 20 | 22 => v = .string ⟨(szSt A B Z 5).l.toArray⟩
  | _ => v = .int .i64 (szSt A B Z 5).e
theorem szFact_grown {w w' : World} (hg : w.grownBy w' (some o)) (i : Nat) (v : Value) (h : szFact o a n A B Z w i v) : szFact o a n A B Z w' i v := by
  unfold szFact at *
  split at h <;> first | exact h | exact h.grown hg
def szFrame (x : Act) : Prop :=
  x.defers = [] ∧ x.tmps.size = 77 ∧ x.tmps[0]? = some (.int .i64 a) ∧ x.tmps[1]? = some (.int .i64 n) ∧ x.tmps[2]? = some undef ∧ x.tmps[3]? = some undef ∧ x.tmps[4]? = some (.bool false) ∧
  x.tmps[5]? = some (.pointer (some ⟨o, 0, none⟩)) ∧ x.tmps[8]? = some undef ∧ x.tmps[9]? = some undef
theorem szFrame_put {x : Act} (h : szFrame o a n x) (t : Nat) (v : Value) (ht : t = 6 ∨ t = 7 ∨ 10 ≤ t) : szFrame o a n (x.put (some t) v) := by
  obtain ⟨h0, h1, h2⟩ := h
  have e : ∀ s, (s < 6 ∨ s = 8 ∨ s = 9) → (x.put (some t) v).tmps[s]? = x.tmps[s]? := fun s hs => by
    simp only [Act.put]
    exact Array.getElem?_setIfInBounds_ne (by omega)
  refine ⟨h0, by simp [Act.put, h1], ?_⟩
  rw [e 0 (by omega), e 1 (by omega), e 2 (by omega), e 3 (by omega), e 4 (by omega), e 5 (by omega), e 8 (by omega), e 9 (by omega)]
  exact h2
def szChain (w0 : World) (L : Nat → Bool) (w : World) : Prop :=
  Below w0.heap.size w0 w ∧ ∃ k, k ≤ 5 ∧ OutAt w o (szSt A B Z k) ∧ L 4 = decide (1 ≤ k) ∧ L 8 = decide (2 ≤ k) ∧ L 10 = decide (3 ≤ k) ∧ L 12 = decide (4 ≤ k) ∧ L 17 = decide (5 ≤ k)
def szInv (w0 : World) (L : Nat → Bool) (x : Act) (w : World) : Prop :=
  szFrame o a n x ∧ (∀ i, i < 24 → L i = true → szFact o a n A B Z w i (x.eval (.tmp (szDst i)))) ∧ szChain o A B Z w0 L w

theorem szDst_inj {i j : Nat} (hi : i < 24) (hj : j < 24) (h : szDst i = szDst j) : i = j := by
  unfold szDst at h
  (repeat' split at h) <;> omega
theorem szDst_ok {i : Nat} (hi : i < 24) : szDst i = 6 ∨ szDst i = 7 ∨ (10 ≤ szDst i ∧ szDst i < 77) := by
  unfold szDst
  split <;> (try split) <;> (try split) <;> omega

theorem sz_next {w0 : World} {L : Nat → Bool} {x : Act} {w w' : World} (i : Nat) (v : Value) (h : szInv o a n A B Z w0 L x w) (hi : i < 24) (hg : w.grownBy w' (some o)) (hv : szFact o a n A B Z w' i v)
    (hc : szChain o A B Z w0 (fun j => if i = j then true else L j) w') : szInv o a n A B Z w0 (fun j => if i = j then true else L j) (x.put (some (szDst i)) v) w' := by
  obtain ⟨h0, h1, _⟩ := h
  have hd := szDst_ok hi
  refine ⟨szFrame_put o a n h0 _ v (by omega), fun j hj hL => ?_, hc⟩
  by_cases hij : i = j
  · subst hij
    have hs : szDst i < x.tmps.size := by rw [h0.2.1]; omega
    have : (x.put (some (szDst i)) v).eval (.tmp (szDst i)) = v := by simp [Act.put, Act.eval, hs]
    rw [this]
    exact hv
  · simp only [if_neg hij] at hL
    have hne : szDst i ≠ szDst j := fun e => hij (szDst_inj hi hj e)
    have : (x.put (some (szDst i)) v).eval (.tmp (szDst j)) = x.eval (.tmp (szDst j)) := Act.eval_put fun d hd e => by
      injection hd with hd
      injection e with e
      exact hne (hd.trans e.symm)
    rw [this]
    exact szFact_grown o a n A B Z hg j _ (h1 j hj hL)
/-- An operation that is no call: the writer stays. -/
theorem sz_stays {w0 : World} {L : Nat → Bool} {w w' : World} (i : Nat) (hi : i ≠ 4 ∧ i ≠ 8 ∧ i ≠ 10 ∧ i ≠ 12 ∧ i ≠ 17) (hb : Below w.heap.size w w') (h : szChain o A B Z w0 L w) :
    szChain o A B Z w0 (fun j => if i = j then true else L j) w' := by
  obtain ⟨h0, k, hk, h1, h2⟩ := h
  refine ⟨h0.trans (hb.mono h0.size), k, hk, h1.below hb, ?_⟩
  simp only [if_neg hi.1, if_neg hi.2.1, if_neg hi.2.2.1, if_neg hi.2.2.2.1, if_neg hi.2.2.2.2]
  exact h2
/-- A call of the writer's. -/
theorem sz_call {w0 : World} {L : Nat → Bool} {w w' : World} (i c : Nat) (hi : (i = 4 ∧ c = 0) ∨ (i = 8 ∧ c = 1 ∧ L 4 = true) ∨ (i = 10 ∧ c = 2 ∧ L 8 = true) ∨ (i = 12 ∧ c = 3 ∧ L 10 = true) ∨ (i = 17 ∧ c = 4 ∧ L 12 = true)) (hL : L i = false)
    (h : szChain o A B Z w0 L w) (ho : w0.heap.size ≤ o) :
    OutAt w o (szSt A B Z c) ∧ (OutAt w' o (szSt A B Z (c + 1)) → w.grownBy w' (some o) → szChain o A B Z w0 (fun j => if i = j then true else L j) w') := by
  obtain ⟨h0, k, hk, h1, l4, l8, l10, l12, l17⟩ := h
  have hkc : k = c := by
    rcases hi with ⟨rfl, rfl⟩ | ⟨rfl, rfl, h'⟩ | ⟨rfl, rfl, h'⟩ | ⟨rfl, rfl, h'⟩ | ⟨rfl, rfl, h'⟩ <;> simp_all <;> omega
  subst hkc
  refine ⟨h1, fun h2 hg => ⟨below_by_new h0 hg ho, k + 1, ?_, h2, ?_⟩⟩
  · rcases hi with ⟨rfl, rfl⟩ | ⟨rfl, rfl, h'⟩ | ⟨rfl, rfl, h'⟩ | ⟨rfl, rfl, h'⟩ | ⟨rfl, rfl, h'⟩ <;> omega
  · rcases hi with ⟨rfl, rfl⟩ | ⟨rfl, rfl, h'⟩ | ⟨rfl, rfl, h'⟩ | ⟨rfl, rfl, h'⟩ | ⟨rfl, rfl, h'⟩ <;> simp_all
end

end Go.Proofs.YtdfickppfihiiaaDoor
