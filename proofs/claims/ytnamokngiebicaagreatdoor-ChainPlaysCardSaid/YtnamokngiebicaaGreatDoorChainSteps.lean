/-
  The chains on a Desk, over each call that the statement's law makes. No statement is proved here.
-/
import Derived.Test.YtnamokngiebicaaGreatDoorChainHeld
import Derived.Test.YtnamokngiebicaaGreatDoorRoomMore
import Derived.Test.YtnamokngiebicaaGreatDoorChainLight
import Derived.Test.YtnamokngiebicaaGreatDoorIntsView
namespace Go.Proofs.YtnamokngiebicaaGreatDoor
open Go.RowKit

/-- An operation that is wanted, and what it leaves. -/
theorem wpList_valueG {P : Program} {ops : Array Oper} {Q : Exit → Act → World → Prop} {rest : List Oper} {o : Oper} {a : Act} {w w' : World} {v : Value} (hw : Region.wanted o (yielded ops a.tmps) = true) (hr : (execOp a.eval o).run P w = .ok (.value v) w') (h : wpList P ops Q rest (a.put o.dst v) w') : wpList P ops Q (o :: rest) a w := by
  refine wpList_step fun K hK => ?_
  rw [hw]
  show Oper.wp _ _ _ _ _ _
  unfold Oper.wp
  rw [hr]
  exact hK _ _ h
/-- '[]int{0, 1}', where it was just made. -/
theorem row01 (w : World) : (w.alloc (.cells #[.int .i64 0, .int .i64 1] 3)).ownsRow w.heap.size 3 1 (.slice (some ⟨w.heap.size, 0, none⟩) 2 2) 2 [.int .i64 0, .int .i64 1] :=
  ⟨rfl, .inr ⟨w.heap.size, 2, #[.int .i64 0, .int .i64 1], rfl, Nat.le_refl _, heap_alloc_new w _, Nat.le_refl _, by unfold maxLen; omega, rfl, rfl⟩⟩
theorem CH.vals_one (x : CH) : ∀ u ∈ x.vals, u.oneCell' = true := by
  intro u hu
  simp only [CH.vals, List.mem_cons, List.not_mem_nil, or_false] at hu
  rcases hu with rfl | rfl | rfl | rfl | rfl <;> rfl
theorem flatH_one (l : List CH) : ∀ u ∈ flatH l, u.oneCell' = true := by
  intro u hu
  obtain ⟨x, _, hx⟩ := List.mem_flatMap.1 hu
  exact x.vals_one u hx
set_option maxRecDepth 100000 in
theorem append_there {w : World} {B : Nat} {i : TypeInfo} (hi : Tryz.prog.info? 75 = some i) (hy0 : i.zero = some (.agg #[.int .i64 0, .int .i64 0, .int .i64 0, .int .i64 0, .string .empty])) (hy1 : i.size = 5) (hy2 : i.bytes = 48) (v : Value) (n : Nat) (xs : List Value) (hown : w.ownsRow B 75 5 v n xs)
    (A : Option Addr) (m c : Nat) (ys : List CH) (hm : ys.length = m) (h0 : A = none → m = 0 ∧ c = 0) (hc : ∀ a, A = some a → ∀ (j : Nat) (u : Value), (flatH ys)[j]? = some u → w.cell? (a.add j) = some u) (hb : n + m ≤ 2000000) (hB : B ≤ w.heap.size) :
    ∃ v' w', (Builtin.append_ #[69, 69] 69 #[v, .slice A m c]).run Tryz.prog w = .ok v' w' ∧ w'.ownsRow B 75 5 v' (n + m) (xs ++ flatH ys) ∧ Below B w w' ∧ w.grownBy w' v.ownBlock := by
  cases A with
  | none =>
    obtain ⟨rfl, rfl⟩ := h0 rfl
    have : ys = [] := List.eq_nil_of_length_eq_zero hm
    subst this
    exact ⟨v, w, run_append_owned_none (P := Tryz.prog) (w := w) B _ _ 75 i 5 Tryz.underlying69 hi v n xs hown, by simpa [flatH] using hown, Below.refl _ _, ⟨rfl, rfl, rfl, Nat.le_refl _, fun _ _ _ => rfl⟩⟩
  | some a =>
    obtain ⟨v', w', hr, h2, h3, _, _⟩ := run_append_own_at (P := Tryz.prog) w B _ _ 75 i _ 5 48 Tryz.underlying69 hi hy0 hy1 hy2 rfl (by omega) v n xs hown a m c (flatH ys) (by rw [flatH_len, hm]) (hc a rfl) (flatH_one ys) (by unfold maxLen; omega) (by omega) hB
    exact ⟨v', w', hr, h2, (Below.refl _ _).grown h3 hB (fun q e => (hown.lt q e).1), h3⟩
theorem there_at {w : World} {base n c : Nat} {p : Option Addr} {e : TypeId} {size : Nat} {xs : List Value} (h : w.ownsRow base e size (.slice p n c) n xs) {a : Addr} (ha : p = some a) {j : Nat} {u : Value} (hu : xs[j]? = some u) : w.cell? (a.add j) = some u := by
  subst ha
  obtain ⟨p', c', e1, _, _, _, h5⟩ := row_slice h
  injection e1 with e1 _ e3
  subst e1 e3
  have := h5 a rfl
  rw [this] at h ⊢
  rw [Go.WideShapes.add_plain, Nat.zero_add]
  exact row_cell h hu
theorem row_none {w : World} {base n c : Nat} {p : Option Addr} {e : TypeId} {size : Nat} {xs : List Value} (h : w.ownsRow base e size (.slice p n c) n xs) : p = none → n = 0 ∧ c = 0 := by
  rintro rfl
  rcases h.2 with ⟨h1, h2⟩ | ⟨g, cap, cur, h1, _⟩
  · injection h1 with _ _ h3
    exact ⟨h2, h3⟩
  · injection h1 with h1
    cases h1
theorem there_take {w : World} {base n c : Nat} {p : Option Addr} {e : TypeId} {cs : List CH} (h : w.ownsRow base e 5 (.slice p n c) n (flatH cs)) {k : Nat} (hk : k ≤ cs.length) {a : Addr} (ha : p = some a) {j : Nat} {u : Value} (hu : (flatH (cs.take k))[j]? = some u) : w.cell? (a.add j) = some u := by
  refine there_at h ha ?_
  rw [← flatH_take cs k hk, List.getElem?_take] at hu
  split at hu
  · exact hu
  · cases hu
theorem there_drop {w : World} {base n c : Nat} {p : Option Addr} {e : TypeId} {cs : List CH} (h : w.ownsRow base e 5 (.slice p n c) n (flatH cs)) (hn : cs.length = n) {k : Nat} (hk : k ≤ n) {a : Addr} (ha : (if c = k then p else Option.map (fun a : Addr => a.add (k * 5)) p) = some a) {j : Nat} {u : Value} (hu : (flatH (cs.drop k))[j]? = some u) : w.cell? (a.add j) = some u := by
  rw [← flatH_drop cs k (by omega), List.getElem?_drop] at hu
  obtain ⟨p', c', e1, h2, _, _, h5⟩ := row_slice h
  injection e1 with e1 _ e3
  subst e1 e3
  have hlen : k * 5 + j < n * 5 := by
    have : k * 5 + j < (flatH cs).length := (List.getElem?_eq_some_iff.1 hu).1
    rw [flatH_len, hn] at this
    exact this
  rw [if_neg (by omega)] at ha
  cases p with
  | none => cases ha
  | some b =>
    injection ha with ha
    have hb := h5 b rfl
    have := there_at h rfl hu
    rw [← ha]
    rw [hb] at this ⊢
    simp only [Go.WideShapes.add_plain] at this ⊢
    rw [show 0 + k * 5 + j = 0 + (k * 5 + j) by omega]
    exact this
theorem row_putG {w : World} {base n g cap : Nat} {e : TypeId} {size : Nat} {xs : List Value} (h : w.ownsRow base e size (.slice (some ⟨g, 0, none⟩) n cap) n xs) (i : Nat) (u : Value) : (w.setCell ⟨g, i, none⟩ u).ownsRow base e size (.slice (some ⟨g, 0, none⟩) n cap) n (xs.set i u) := by
  refine ⟨by rw [List.length_set]; exact h.1, ?_⟩
  rcases h.2 with ⟨h, _⟩ | ⟨g', cap', cur, h, hb, hg, h1, h2, h3, h4⟩
  · cases h
  · injection h with e1 _ e3
    injection e1 with e1
    injection e1 with e1 _ _
    subst e1 e3
    refine .inr ⟨g, cap, cur.setIfInBounds i u, rfl, hb, Blk.put (show Blk w g e cur from hg) i u, h1, h2, by rw [Array.size_setIfInBounds]; exact h3, ?_⟩
    rw [Array.toList_setIfInBounds, ← h4, List.take_set]
theorem flatH_put {cs : List CH} {jj : Nat} {c c' : CH} (hc : cs[jj]? = some c) : (((((flatH cs).set (jj * 5) (.int .i64 c'.at_)).set (jj * 5 + 1) (.int .i64 c'.gen)).set (jj * 5 + 2) (.int .i64 c'.tag)).set (jj * 5 + 3) (.int .i64 c'.refs)).set (jj * 5 + 4) (.string c'.data) = flatH (cs.take jj ++ c' :: cs.drop (jj + 1)) := by
  have hj : jj < cs.length := (List.getElem?_eq_some_iff.1 hc).1
  have e : flatH cs = flatH (cs.take jj) ++ (c.vals ++ flatH (cs.drop (jj + 1))) := by
    conv => lhs; rw [(take_mid hc).1, flatH_app]
    rfl
  have hl : (flatH (cs.take jj)).length = jj * 5 := by rw [flatH_len, List.length_take]; omega
  have e2 : flatH (c' :: cs.drop (jj + 1)) = c'.vals ++ flatH (cs.drop (jj + 1)) := rfl
  have f : ∀ (t : List Value) (i : Nat) (u : Value), (flatH (cs.take jj) ++ t).set (jj * 5 + i) u = flatH (cs.take jj) ++ t.set i u := fun t i u => by
    rw [List.set_append_right _ _ (by omega), hl, Nat.add_sub_cancel_left]
  have f0 : ∀ (t : List Value) (u : Value), (flatH (cs.take jj) ++ t).set (jj * 5) u = flatH (cs.take jj) ++ t.set 0 u := fun t u => f t 0 u
  rw [e, flatH_app, e2, f0, f, f, f, f]
  rfl
/-- What the operations ahead of the appends leave, where a chain is kept .. -/
def putV12 (p : Option Addr) (lc cap : Nat) (t : Int) (og : Nat) (gen tag : Int) (b : ByteArray) : Nat → Option Value
  | 0 => some (.slice p lc cap) | 2 => some (.int .i64 t) | 3 => some (.pointer (some ⟨og, 2, none⟩)) | 4 => some (.int .i64 gen) | 5 => some (.pointer (some ⟨og, 3, none⟩)) | 6 => some (.int .i64 tag) | 7 => some (.string b) | 8 => some (.agg #[.int .i64 t, .int .i64 gen, .int .i64 tag, .int .i64 1, .string b]) | _ => none
/-- .. and where one is dropped. -/
def cutV12 (A : Option Addr) (lc cap jj : Nat) : Nat → Option Value
  | 0 => some (.slice A lc cap) | 1 => some (.int .i64 jj) | 2 => some (.slice A jj cap) | 4 => some (.slice A lc cap) | 5 => some (.int .i64 jj) | 6 => some (.int .i64 (jj + 1)) | 7 => some (sliced A (jj + 1) lc cap 5) | _ => none
/-- On the way through two appends: the first one is operation i1, the other one iE, what stands behind the first one is a new row of one (i9), or one that was there. -/
structure ThJ (W : World) (V : Nat → Option Value) (i1 i9 iE n1 nE : Nat) (pre all : List Value) (nw : Array Value) (L : Nat → Bool) (f : Nat → Value) (w' : World) : Prop where
  vals : ∀ i v, L i = true → V i = some v → f i = v
  r1 : L i1 = true → L iE = false → w'.ownsRow W.heap.size 75 5 (f i1) n1 pre
  r9 : L i9 = true → L iE = false → ∃ b, f i9 = .slice (some ⟨b, 0, none⟩) 1 1 ∧ Blk w' b 75 nw ∧ W.heap.size ≤ b ∧ (L i1 = true → (f i1).ownBlock ≠ some b)
  rE : L iE = true → w'.ownsRow W.heap.size 75 5 (f iE) nE all
  c1 : L iE = true → L i1 = true
  c9 : i9 < 50 → L iE = true → L i9 = true
  below : Below W.heap.size W w'
section
variable {W w' w'' : World} {V : Nat → Option Value} {i1 i9 iE n1 nE : Nat} {pre all : List Value} {nw : Array Value} {L : Nat → Bool} {f : Nat → Value}
theorem ThJ.start (W : World) (V : Nat → Option Value) (i1 i9 iE n1 nE : Nat) (pre all : List Value) (nw : Array Value) : ThJ W V i1 i9 iE n1 nE pre all nw (fun _ => false) (fun _ => undef) W.drew :=
  ⟨(fun _ _ h => by cases h), (fun h => by cases h), (fun h => by cases h), (fun h => by cases h), (fun h => by cases h), (fun _ h => by cases h), (Below.refl _ _).drew⟩
/-- An operation of known value. -/
theorem ThJ.val (h : ThJ W V i1 i9 iE n1 nE pre all nw L f w') {i : Nat} {v : Value} (h1 : i ≠ i1) (h9 : i ≠ i9) (hE : i ≠ iE) (hv : V i = some v) : ThJ W V i1 i9 iE n1 nE pre all nw (fun j => if i = j then true else L j) (fun j => if i = j then v else f j) w' := by
  refine ⟨fun j u hj hu => ?_, ?_, ?_, ?_, ?_, ?_, h.below⟩
  · by_cases e : i = j
    · subst e
      rw [hv] at hu
      injection hu with hu
      subst hu
      exact if_pos rfl
    · simp only [if_neg e] at hj ⊢
      exact h.vals j u hj hu
  all_goals simp only [if_neg h1, if_neg h9, if_neg hE]
  · exact h.r1
  · exact h.r9
  · exact h.rE
  · exact h.c1
  · exact h.c9
/-- The first append, onto nothing. -/
theorem ThJ.one (h : ThJ W V i1 i9 iE n1 nE pre all nw L f w') {v : Value} (hV : V i1 = none) (h9 : i1 ≠ i9) (hE : i1 ≠ iE) (hLE : L iE = false) (hr : w''.ownsRow w'.heap.size 75 5 v n1 pre) (hb : Below w'.heap.size w' w'') : ThJ W V i1 i9 iE n1 nE pre all nw (fun j => if i1 = j then true else L j) (fun j => if i1 = j then v else f j) w'' := by
  refine ⟨fun j u hj hu => ?_, ?_, ?_, ?_, (fun _ => by simp), (fun _ h' => by simp only [if_neg hE, hLE] at h'; cases h'), h.below.trans (hb.mono h.below.size)⟩
  · by_cases e : i1 = j
    · subst e; rw [hV] at hu; cases hu
    · simp only [if_neg e] at hj ⊢; exact h.vals j u hj hu
  · intro _ _
    simp only [if_true]
    exact row_lower hr h.below.size
  · simp only [if_neg h9, if_neg hE, if_true]
    intro hl9 _
    obtain ⟨b, e1, e2, e3, _⟩ := h.r9 hl9 hLE
    exact ⟨b, e1, e2.below hb e2.lt, e3, fun _ e => by have := (hr.lt _ e).1; have := e2.lt; omega⟩
  · simp only [if_neg hE, hLE]
    intro h'
    cases h'
/-- The new row of one. -/
theorem ThJ.made (h : ThJ W V i1 i9 iE n1 nE pre all nw L f w') (hV : V i9 = none) (h1 : i9 ≠ i1) (hE : i9 ≠ iE) (hLE : L iE = false) : ThJ W V i1 i9 iE n1 nE pre all nw (fun j => if i9 = j then true else L j) (fun j => if i9 = j then .slice (some ⟨w'.heap.size, 0, none⟩) 1 1 else f j) (w'.alloc (.cells nw 75)) := by
  refine ⟨fun j u hj hu => ?_, ?_, ?_, ?_, (fun h' => by simp only [if_neg hE, hLE] at h'; cases h'), (fun _ _ => by simp), h.below.alloc h.below.size _⟩
  · by_cases e : i9 = j
    · subst e; rw [hV] at hu; cases hu
    · simp only [if_neg e] at hj ⊢; exact h.vals j u hj hu
  · simp only [if_neg h1, if_neg hE]
    intro hl1 _
    exact (h.r1 hl1 hLE).alloc _
  · simp only [if_neg h1, if_true]
    intro _ _
    exact ⟨_, rfl, Blk.new _ _ _, h.below.size, fun hl1 e => by have := ((h.r1 hl1 hLE).lt _ e).2; omega⟩
  · simp only [if_neg hE, hLE]
    intro h'
    cases h'
/-- The other append. -/
theorem ThJ.both (h : ThJ W V i1 i9 iE n1 nE pre all nw L f w') {v : Value} (hV : V iE = none) (hl1 : L i1 = true) (hl9 : i9 < 50 → L i9 = true) (hr : w''.ownsRow W.heap.size 75 5 v nE all) (hb : Below W.heap.size w' w'') : ThJ W V i1 i9 iE n1 nE pre all nw (fun j => if iE = j then true else L j) (fun j => if iE = j then v else f j) w'' := by
  refine ⟨fun j u hj hu => ?_, ?_, ?_, ?_, (fun _ => by simp only [hl1]; split <;> rfl), (fun h9 _ => by simp only [hl9 h9]; split <;> rfl), h.below.trans hb⟩
  · by_cases e : iE = j
    · subst e; rw [hV] at hu; cases hu
    · simp only [if_neg e] at hj ⊢; exact h.vals j u hj hu
  · intro _ h'
    simp only [if_true] at h'
    cases h'
  · intro _ h'
    simp only [if_true] at h'
    cases h'
  · intro _
    simp only [if_true]
    exact hr
end
end Go.Proofs.YtnamokngiebicaaGreatDoor

namespace Go.Proofs.YtnamokngiebicaaGreatDoor
open Go.RowKit

/-- The law's own state: the Desk, the chains that are there, and their row. -/
structure Pl12 (w0 wr : World) (g gd m N : Nat) (h : List ByteArray) (K : KD) (Ms : List MK) (cs : List CH) (p : Option Addr) (cap : Nat) : Prop where
  st : DMk w0 wr g gd m N K Ms
  run : Run11 N K h 2
  on : St12 K cs
  row : HeldRow Ms w0.heap.size 75 5 (.slice p cs.length cap) cs.length (flatH cs)
section
variable {w0 w w' : World} {g gd m N : Nat} {h : List ByteArray} {K : KD} {Ms : List MK} {cs l1 l2 : List CH} {c : CH} {p : Option Addr} {cap : Nat}
def freeI (N : Nat) (cs : List CH) : Int := (N : Int) - 113 - ((secsOf cs).length : Int)
theorem Pl12.below (s : Pl12 w0 w g gd m N h K Ms cs p cap) (hb : Below w.heap.size w w') : Pl12 w0 w' g gd m N h K Ms cs p cap := ⟨s.st.below hb, s.run, s.on, s.row⟩
theorem Pl12.mono {m' : Nat} (s : Pl12 w0 w g gd m N h K Ms cs p cap) (hm : m ≤ m') : Pl12 w0 w g gd m' N h K Ms cs p cap := ⟨s.st.mono hm, s.run, s.on, s.row⟩
theorem Pl12.base (s : Pl12 w0 w g gd m N h K Ms cs p cap) : Below w0.heap.size w0 w := s.st.st.at0
theorem Pl12.few (s : Pl12 w0 w g gd m N h K Ms cs p cap) : (secsOf cs).length + 2 ≤ N - 111 ∧ cs.length ≤ (secsOf cs).length ∧ N ≤ 400 := by
  have h1 := s.run.hok.few
  have h2 := s.on.cnt
  have h3 := s.run.ok.dim
  have h4 : ∀ l : List CH, (∀ c ∈ l, c ∈ cs) → l.length ≤ (secsOf l).length := by
    intro l
    induction l with
    | nil => intro _; exact Nat.le_refl _
    | cons x r ih =>
      intro hc
      have := ih (fun c hc' => hc c (List.mem_cons_of_mem _ hc'))
      have := (s.on.on x (hc x (by simp))).count
      rw [secs_cons, List.length_append, List.length_cons]
      omega
  have := h4 cs (fun _ h => h)
  omega
theorem Pl12.atI (s : Pl12 w0 w g gd m N h K Ms cs p cap) (hc : c ∈ cs) : I64 c.at_ := by
  have hon := s.on.on c hc
  have := hon.range _ (hon.mem (i := 0) (by have := hon.count; omega))
  show I64 (c.ps.getD 0 0)
  unfold I64
  omega
theorem dmk_dirty {c0 : Nat} (s : DMk w0 w g gd m N K Ms) (r : Run11 N K h c0) (hm : m < 1000000) :
    Calls Tryz.prog 36 #[.pointer (some ⟨g, 0, none⟩)] w fun e w' => ∃ A c, e = .returned (.slice A (pendT K).length c) ∧ w'.ownsRow w.heap.size 3 1 (.slice A (pendT K).length c) (pendT K).length ((pendT K).map (Value.int .i64)) ∧ Below w.heap.size w w' := by
  obtain ⟨P, h1, h2, h3, h4⟩ := s
  exact kdirty_any h1 r.ok hm
theorem pend_few {c0 : Nat} (r : Run11 N K h c0) : (pendT K).length ≤ 400 := by
  have := pendT_le K
  have := r.ok.dim
  have := r.ok.len
  omega
/-- A held block is written: the Desk is as it was. -/
theorem DMk.store {x : Nat} {o : Obj} (s : DMk w0 w g gd m N K Ms) (hx : MK.held x o ∈ Ms) (hx0 : w0.heap.size ≤ x) (hk : Keep [x] w w') : DMk w0 w' g gd m N K [] := by
  obtain ⟨P, h1, h2, h3, h4⟩ := s
  have hxP : x ∉ P := (h4 _ hx).1
  refine ⟨P, h1.kept (fun b hb => hk.block b (h1.lt hb) (by simp; exact fun e => hxP (e ▸ hb))), h2, h3.trans (hk.below (fun b hb => by simp at hb; omega) h3.size), fun _ h => by cases h⟩
/-- Get of a chain that is there. -/
theorem pl_get (s : Pl12 w0 w g gd m N h K Ms cs p cap) (hc : c ∈ cs) :
    Calls Tryz.prog 42 #[.pointer (some ⟨g, 0, none⟩), .int .i64 c.at_] w fun e w' => e = .returned (.tuple #[.agg #[.int .i64 c.gen, .int .i64 c.tag, .int .i64 c.refs, .string c.data], .int .i64 0]) ∧ Below w.heap.size w w' := by
  have := cget_any s.st.st s.run (s.atI hc)
  have hon := s.on.on c hc
  unfold CH.at_ at this ⊢
  rw [on_getC hon, on_chainR hon] at this
  exact this
/-- Its sectors. -/
theorem pl_secs (s : Pl12 w0 w g gd m N h K Ms cs p cap) (hc : c ∈ cs) :
    Calls Tryz.prog 43 #[.pointer (some ⟨g, 0, none⟩), .int .i64 c.at_] w fun e w' => ∃ A cp, e = .returned (.tuple #[.slice A c.ps.length cp, .int .i64 0]) ∧ w'.ownsRow w.heap.size 3 1 (.slice A c.ps.length cp) c.ps.length (c.ps.map (Value.int .i64)) ∧ Below w.heap.size w w' := by
  have := csectors_any s.st.st s.run (s.atI hc)
  have hon := s.on.on c hc
  unfold CH.at_ at this ⊢
  rw [on_secs hon, on_chainR hon] at this
  refine this.mono ?_
  rintro e w' ⟨A, cp, h1, h2, -, h3⟩
  exact ⟨A, cp, h1, h2, h3⟩
/-- Drop of a chain that is there: gone. -/
theorem pl_drop (s : Pl12 w0 w g gd m N h K Ms (l1 ++ c :: l2) p cap) :
    Calls Tryz.prog 40 #[.pointer (some ⟨g, 0, none⟩), .int .i64 c.at_] w fun e w' => e = .returned (.int .i64 0) ∧ ∃ K', DMk w0 w' g gd m N K' Ms ∧ Run11 N K' h 2 ∧ St12 K' (l1 ++ l2) := by
  have hm : c ∈ l1 ++ c :: l2 := by simp
  have hon := s.on.on c hm
  have := cdrop_any s.st s.run (s.atI hm)
  obtain ⟨e1, H', e2, ho, hl, hH⟩ := on_drop hon (nodup_mid s.on.once) s.run.hok (s.on.used hm)
  unfold CH.at_ at this ⊢
  rw [e1, e2] at this
  refine this.mono ?_
  rintro e w' ⟨rfl, hd⟩
  have h2 : ∀ z, z = 0 ∨ z = 1 → z ∈ H' := fun z hz => (hH z).2 ⟨by rcases hz with rfl | rfl <;> first | exact s.run.ok.zero | exact s.run.ok.one, fun hp => by have := (hon.range z hp).1; omega⟩
  exact ⟨rfl, _, hd, s.run.use ho (h2 0 (.inl rfl)) (h2 1 (.inr rfl)), s.on.drop hl hH⟩
/-- Refs of it. -/
theorem pl_refs_no {by_ : Int} (s : Pl12 w0 w g gd m N h K Ms (l1 ++ c :: l2) p cap) (hm : m < 1000000) (hb : I64 by_) (hno : by_ < -c.refs ∨ 60000 - c.refs < by_) :
    Calls Tryz.prog 41 #[.pointer (some ⟨g, 0, none⟩), .int .i64 c.at_, .int .i64 by_] w fun e w' => e = .returned (.tuple #[.int .i64 0, .int .i64 15]) ∧ Pl12 w0 w' g gd (m + 1) N h K Ms (l1 ++ c :: l2) p cap := by
  have hc : c ∈ l1 ++ c :: l2 := by simp
  have hon := s.on.on c hc
  have := crefs_any s.st s.run hm (s.atI hc) hb
  obtain ⟨e1, e2⟩ := (on_refs hon (s.on.used hc)).1 hno
  unfold CH.at_ at this ⊢
  rw [e1, e2] at this
  refine this.mono ?_
  rintro e w' ⟨rfl, hd⟩
  exact ⟨rfl, hd, s.run, s.on, s.row⟩
theorem pl_refs_yes {by_ : Int} (s : Pl12 w0 w g gd m N h K Ms (l1 ++ c :: l2) p cap) (hm : m < 1000000) (hb : I64 by_) (hno : ¬ (by_ < -c.refs ∨ 60000 - c.refs < by_)) :
    Calls Tryz.prog 41 #[.pointer (some ⟨g, 0, none⟩), .int .i64 c.at_, .int .i64 by_] w fun e w' => e = .returned (.tuple #[.int .i64 (c.refs + by_), .int .i64 0]) ∧ ∃ K', DMk w0 w' g gd (m + 1) N K' Ms ∧ Run11 N K' h 2 ∧ St12 K' (l1 ++ c.use (c.refs + by_) :: l2) := by
  have hc : c ∈ l1 ++ c :: l2 := by simp
  have hon := s.on.on c hc
  have hl0 : 0 < c.ps.length := by have := hon.count; omega
  have := crefs_any s.st s.run hm (s.atI hc) hb
  obtain ⟨e1, e2⟩ := (on_refs hon (s.on.used hc)).2 hno
  have hst := s.on.refs (r := c.refs + by_) (by omega)
  have hok : (linkAt c.gen c.tag (c.refs + by_) c.data c.ps 0).Ok := by
    have := hon.ok hl0
    exact ⟨this.fit, this.num, (by show 0 ≤ c.refs + by_ ∧ c.refs + by_ ≤ 60000; omega), this.next, this.data⟩
  have hr := s.run.set c.at_ (bs (linkAt c.gen c.tag (c.refs + by_) c.data c.ps 0).text)
  obtain ⟨-, t2⟩ := lay_ok hon (s.on.used hc) hl0 (s := bs (linkAt c.gen c.tag (c.refs + by_) c.data c.ps 0).text) (by rw [bs_size, hok.text_len])
  unfold usedK at hst
  unfold CH.at_ at this hr hst ⊢
  rw [t2] at hr
  rw [e1, e2] at this
  refine this.mono ?_
  rintro e w' ⟨rfl, hd⟩
  exact ⟨rfl, _, hd, hr, hst⟩
/-- What Put does. -/
inductive PlPut (w0 w' : World) (g gd m N : Nat) (h : List ByteArray) (K : KD) (Ms : List MK) (cs : List CH) (p : Option Addr) (cap : Nat) (gen tag : Int) (b : ByteArray) (e : Ending) : Prop
  | arg (hf : gen < 1 ∨ 3 < gen ∨ tag < 0 ∨ 200 < tag) (he : e = .returned (.tuple #[.int .i64 0, .int .i64 1])) (hs : Pl12 w0 w' g gd m N h K Ms cs p cap)
  | long (hf : 1 ≤ gen ∧ gen ≤ 3 ∧ 0 ≤ tag ∧ tag ≤ 200) (hb : 9440 < b.size) (he : e = .returned (.tuple #[.int .i64 0, .int .i64 2])) (hs : Pl12 w0 w' g gd m N h K Ms cs p cap)
  | full (hf : 1 ≤ gen ∧ gen ≤ 3 ∧ 0 ≤ tag ∧ tag ≤ 200) (hb : b.size ≤ 9440) (hn : freeI N cs < needI b.size) (he : e = .returned (.tuple #[.int .i64 0, .int .i64 20])) (hs : Pl12 w0 w' g gd m N h K Ms cs p cap)
  | done (hf : 1 ≤ gen ∧ gen ≤ 3 ∧ 0 ≤ tag ∧ tag ≤ 200) (hb : b.size ≤ 9440) (hn : needI b.size ≤ freeI N cs) (K' : KD) (ps : List Int) (he : e = .returned (.tuple #[.int .i64 (ps.getD 0 0), .int .i64 0])) (hs : DMk w0 w' g gd m N K' Ms) (hr : Run11 N K' h 2) (ho : St12 K' (cs ++ [⟨gen, tag, 1, b, ps⟩]))
    (hfree : freeI N (cs ++ [⟨gen, tag, 1, b, ps⟩]) = freeI N cs - needI b.size)
theorem needI_nat (n : Nat) : needI (n : Int) = (needN n : Int) := by
  unfold needI
  rw [if_neg (by omega)]
  rfl
theorem pl_put (s : Pl12 w0 w g gd m N h K Ms cs p cap) (hm : m ≤ 900000) (gen tag : Int) (b : ByteArray) (hb : b.size ≤ 100000) :
    Calls Tryz.prog 37 #[.pointer (some ⟨g, 0, none⟩), .int .i64 gen, .int .i64 tag, .string b] w fun e w' => PlPut w0 w' g gd (m + 40) N h K Ms cs p cap gen tag b e := by
  have hr := s.run.hok.few
  have hcn := s.on.cnt
  have hd := s.run.ok.dim
  refine (kput_chain s.st s.run hm gen tag b hb).mono ?_
  intro e w' q
  cases q with
  | arg a1 a2 a3 =>
    have : ¬ (1 ≤ gen ∧ gen ≤ 3 ∧ 0 ≤ tag ∧ tag ≤ 200) := of_decide_eq_false a1
    exact .arg (by omega) a2 ⟨a3, s.run, s.on, s.row⟩
  | long a1 a2 a3 a4 => exact .long (of_decide_eq_true a1) a2 a3 ⟨a4, s.run, s.on, s.row⟩
  | full a1 a2 a3 a4 a5 =>
    have := (put_none _ K 0 s.run.hok).1 a3
    refine .full (of_decide_eq_true a1) a2 ?_ a4 ⟨a5, s.run, s.on, s.row⟩
    rw [needI_nat]
    unfold freeI
    omega
  | done a1 a2 K' t a3 a4 a5 a6 =>
    obtain ⟨ps, q1, rfl, q3⟩ := put_chain s.run.ok.dim.2 s.run.hok s.run.ok.zero s.run.ok.one a1 a2 a3
    have hno : ¬ (N - 111 < K.H.length + needN b.size) := fun h => by
      have := (put_none (gen := gen) (tag := tag) (b := b) (needN b.size) K 0 s.run.hok).2 h
      rw [a3] at this
      cases this
    have hl := q1.len
    refine .done (of_decide_eq_true a1) a2 ?_ K' ps a4 a5 a6 (s.on.put q1 q3) ?_
    · rw [needI_nat]
      unfold freeI
      omega
    · rw [needI_nat]
      unfold freeI
      rw [secs_app, List.length_append]
      have : (secsOf [(⟨gen, tag, 1, b, ps⟩ : CH)]).length = needN b.size := by
        rw [secs_cons, List.length_append]
        show ps.length + (secsOf []).length = _
        rw [hl]
        rfl
      omega
/-- What is free behind a Drop. -/
theorem free_drop (hl : c.ps.length = needN c.data.size) : freeI N (l1 ++ l2) = freeI N (l1 ++ c :: l2) + needI c.data.size := by
  rw [needI_nat]
  unfold freeI
  rw [secs_app, secs_mid, List.length_append, List.length_append, List.length_append, hl]
  omega
theorem free_use {r : Int} : freeI N (l1 ++ c.use r :: l2) = freeI N (l1 ++ c :: l2) := by
  unfold freeI
  rw [secs_mid, secs_mid]
  rfl
/-- Room's numbers. -/
theorem Pl12.room (s : Pl12 w0 w g gd m N h K Ms cs p cap) : K.H = [0, 1] ++ putEach (secsOf cs) ∧ ((N - 111 : Nat) : Int) - (K.H.length : Int) = freeI N cs ∧ (putEach (secsOf cs)).length ≤ 400 := by
  have h1 := s.on.all s.run.hok.rise
  have h2 := s.on.cnt
  have h3 := s.run.ok.dim
  have h4 := s.few
  have h5 := putEach_le (secsOf cs)
  refine ⟨h1, ?_, by omega⟩
  unfold freeI
  omega
end
end Go.Proofs.YtnamokngiebicaaGreatDoor
