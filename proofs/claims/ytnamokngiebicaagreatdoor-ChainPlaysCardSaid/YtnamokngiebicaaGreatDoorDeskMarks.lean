/-
  A Desk and the Marks that are held of it, over each of its calls. No statement is proved here.
-/
import Derived.Test.YtnamokngiebicaaGreatDoorIntsView
namespace Go.Proofs.YtnamokngiebicaaGreatDoor
open Go.RowKit

/-- What is held beside a Desk: a Mark as plain data (where its state stands, and what it holds), or any block that no call on the Desk touches. -/
inductive MK where
  | mark (st : Nat) (sy : Int) (F : Int → ByteArray) (H : List Int)
  | held (b : Nat) (o : Obj)
def MarkOn (w : World) (P : List Nat) (g m n : Nat) : MK → Prop
  | .mark st sy F H => ∃ mb rb, st ∉ P ∧ mb ∉ P ∧ rb ∉ P ∧ Blk w st 111 #[.pointer (some ⟨g, 0, none⟩), .int .i64 sy, .map (some mb), .pointer (some ⟨rb, 0, none⟩)] ∧ MapW w mb m F ∧ RoomAt w rb n H
  | .held b o => b ∉ P ∧ w.heap[b]? = some o
theorem heap_lt {w : World} {b : Nat} {o : Obj} (h : w.heap[b]? = some o) : b < w.heap.size := (Array.getElem?_eq_some_iff.1 h).1
theorem MarkOn.turn {w w' : World} {P P' : List Nat} {g m m' n : Nat} {M : MK} (h : MarkOn w P g m n M) (hP : ∀ b ∈ P', b ∈ P ∨ w.heap.size ≤ b) (hk : Keep P w w') (hm : m ≤ m') : MarkOn w' P' g m' n M := by
  have f : ∀ b, b ∉ P → b < w.heap.size → b ∉ P' := fun b hb hl hb' => by
    rcases hP b hb' with h | h
    · exact hb h
    · omega
  cases M with
  | mark st sy F H =>
    obtain ⟨mb, rb, h1, h2, h3, h4, h5, h6⟩ := h
    exact ⟨mb, rb, f _ h1 h4.lt, f _ h2 h5.lt, f _ h3 h6.lt, h4.keep hk h1, (h5.keep hk h2).mono hm, h6.keep hk h3⟩
  | held b o =>
    obtain ⟨h1, h2⟩ := h
    exact ⟨f _ h1 (heap_lt h2), (hk.block b (heap_lt h2) h1).trans h2⟩
theorem MarkOn.at {w : World} {P : List Nat} {g m n st : Nat} {sy : Int} {F : Int → ByteArray} {H : List Int} (h : MarkOn w P g m n (.mark st sy F H)) : MarkAt w 0 st g m n sy F H := by
  obtain ⟨mb, rb, h1, h2, h3, h4, h5, h6⟩ := h
  exact ⟨mb, rb, Nat.zero_le _, Nat.zero_le _, Nat.zero_le _, h4, h5, h6⟩
def DMk (w0 w : World) (g gd m N : Nat) (K : KD) (Ms : List MK) : Prop :=
  ∃ P, DeskAt w P g gd m K ∧ (∀ b ∈ P, w0.heap.size ≤ b) ∧ Below w0.heap.size w0 w ∧ ∀ M ∈ Ms, MarkOn w P g m (N - 111) M
section
variable {w0 w w' : World} {g gd m N : Nat} {K K' : KD} {h : List ByteArray} {c : Nat} {Ms : List MK} {P : List Nat}
theorem DMk.of (s : DSt w0 w g gd m K) : DMk w0 w g gd m N K [] := by
  obtain ⟨P, h1, h2, h3⟩ := s
  exact ⟨P, h1, h2, h3, fun _ h => by cases h⟩
theorem DMk.st (s : DMk w0 w g gd m N K Ms) : DSt w0 w g gd m K := by
  obtain ⟨P, h1, h2, h3, _⟩ := s
  exact ⟨P, h1, h2, h3⟩
theorem DMk.turn {m' : Nat} (h2 : ∀ b ∈ P, w0.heap.size ≤ b) (h3 : Below w0.heap.size w0 w) (h4 : ∀ M ∈ Ms, MarkOn w P g m (N - 111) M) (hm : m ≤ m') (ht : DTurns P g gd m' K' w w') : DMk w0 w' g gd m' N K' Ms := by
  obtain ⟨P', a1, a2, a3⟩ := ht
  refine ⟨P', a1, fun b hb => ?_, h3.trans (a3.below h2 h3.size), fun M hM => (h4 M hM).turn a2 a3 hm⟩
  rcases a2 b hb with h | h
  · exact h2 b h
  · exact Nat.le_trans h3.size h
theorem DMk.below (s : DMk w0 w g gd m N K Ms) (hb : Below w.heap.size w w') : DMk w0 w' g gd m N K Ms := by
  obtain ⟨P, h1, h2, h3, h4⟩ := s
  exact DMk.turn h2 h3 h4 (Nat.le_refl _) (DTurns.of_below h1 hb)
/-- What is held is as it was. -/
theorem DMk.held {b : Nat} {o : Obj} (s : DMk w0 w g gd m N K Ms) (hM : MK.held b o ∈ Ms) : w.heap[b]? = some o := by
  obtain ⟨P, h1, h2, h3, h4⟩ := s
  exact (h4 _ hM).2
/-- A new block is held from now on. -/
theorem DMk.hold {b : Nat} {o : Obj} (s : DMk w0 w g gd m N K Ms) (hb : Below w.heap.size w w') (hl : w.heap.size ≤ b) (ho : w'.heap[b]? = some o) : DMk w0 w' g gd m N K (.held b o :: Ms) := by
  obtain ⟨P, h1, h2, h3, h4⟩ := s
  refine ⟨P, h1.below hb, h2, h3.trans (hb.mono h3.size), fun M hM => ?_⟩
  rcases List.mem_cons.1 hM with rfl | hM
  · exact ⟨fun hm => by have := h1.lt hm; omega, ho⟩
  · exact (h4 M hM).turn (fun b hb => .inl hb) (Keep.of_below hb) (Nat.le_refl _)
theorem DMk.less {Ms' : List MK} (s : DMk w0 w g gd m N K Ms) (h : ∀ M ∈ Ms', M ∈ Ms) : DMk w0 w g gd m N K Ms' := by
  obtain ⟨P, h1, h2, h3, h4⟩ := s
  exact ⟨P, h1, h2, h3, fun M hM => h4 M (h M hM)⟩
theorem DMk.mono {m' : Nat} (s : DMk w0 w g gd m N K Ms) (h : m ≤ m') : DMk w0 w g gd m' N K Ms := by
  obtain ⟨P, h1, h2, h3, h4⟩ := s
  exact DMk.turn h2 h3 h4 h ((DTurns.refl h1).mono h)
theorem keepF_used {F : Int → ByteArray} {H H' : List Int} (hu : ∀ t, F t ≠ .empty → t ∈ H ∧ t ≠ 1 ∧ (F t).size = 256) : ∀ t, keepF H' F t ≠ .empty → t ∈ H' ∧ t ≠ 1 ∧ (keepF H' F t).size = 256 := by
  intro t he
  unfold keepF at he ⊢
  by_cases hm : t ∈ H'
  · rw [if_pos hm] at he ⊢
    exact ⟨hm, (hu t he).2⟩
  · rw [if_neg hm] at he
    exact absurd rfl he
theorem Run11.use (r : Run11 N K h c) {H' : List Int} (ho : HOk (N - 111) H') (h0 : (0 : Int) ∈ H') (h1 : (1 : Int) ∈ H') : Run11 N (useK K H') h c := r.with ho h0 h1 (keepF_used r.ok.used)
theorem dropR_ok {n : Nat} : ∀ (l : List Int) {H H' : List Int}, HOk n H → (0 : Int) ∈ H → (1 : Int) ∈ H → dropR H l = some H' → HOk n H' ∧ (0 : Int) ∈ H' ∧ (1 : Int) ∈ H'
  | [], H, H', ho, h0, h1, e => by
    injection e with e
    subst e
    exact ⟨ho, h0, h1⟩
  | x :: r, H, H', ho, h0, h1, e => by
    unfold dropR at e
    split at e
    · cases e
    · rename_i hx
      exact dropR_ok r (ho.drop x) ((dropL_mem _ _ _).2 ⟨h0, fun q => hx (.inl q.symm)⟩) ((dropL_mem _ _ _).2 ⟨h1, fun q => hx (.inr (.inl q.symm))⟩) e
theorem Run11.drop (r : Run11 N K h c) (l : List Int) : Run11 N (dropK K l) h c := by
  unfold dropK
  split
  · exact r
  · rename_i H e
    obtain ⟨a, b, d⟩ := dropR_ok l r.hok r.ok.zero r.ok.one e
    exact r.use a b d
theorem putEach_hok {n : Nat} (l : List Int) (hl : ∀ x ∈ l, 0 ≤ x ∧ x < (n : Int)) : HOk n (putEach l) := ⟨(putEach_spec l).1, fun x hx => hl x (((putEach_spec l).2 x).1 hx)⟩
theorem Run11.stay (r : Run11 N K h c) (l : List Int) : Run11 N (stayK K l) h c := by
  rcases Classical.em (StayOk K l) with e | e
  · rw [(stay_yes e).2]
    refine r.use (putEach_hok _ (fun x hx => ?_)) (((putEach_spec _).2 _).2 (by simp)) (((putEach_spec _).2 _).2 (by simp))
    have := e x hx
    rw [r.ok.len] at this
    exact this
  · rw [(stay_no e).2]
    exact r
theorem Run11.back {K0 : KD} {h0 : List ByteArray} {c0 : Nat} (r : Run11 N K h c) (r0 : Run11 N K0 h0 c0) : Run11 N (backK K K0.F K0.H) h c := r.with r0.hok r0.ok.zero r0.ok.one r0.ok.used

theorem dmk_set (s : DMk w0 w g gd m N K Ms) (r : Run11 N K h c) (hm : m < 1000000) (t : Int) {x : ByteArray} (hx : x.size ≤ 100000) :
    Calls Tryz.prog 13 #[.pointer (some ⟨g, 0, none⟩), .int .i64 t, .string x] w fun e w' => e = .returned (.int .i64 (setE K t x)) ∧ DMk w0 w' g gd (m + 1) N (setK K t x) Ms := by
  obtain ⟨P, h1, h2, h3, h4⟩ := s
  refine (kset_any t x h1 r.bad hm hx).mono ?_
  rintro e w' ⟨rfl, ht⟩
  exact ⟨rfl, DMk.turn h2 h3 h4 (Nat.le_succ _) ht⟩
theorem dmk_new (s : DMk w0 w g gd m N K Ms) (r : Run11 N K h c) (hm : m < 1000000) {k : Nat} (hk : Least K.H k) {x : ByteArray} (hx : x.size = 256) :
    Calls Tryz.prog 14 #[.pointer (some ⟨g, 0, none⟩), .string x] w fun e w' =>
      (k = N - 111 ∧ e = .returned (.tuple #[.int .i64 0, .int .i64 20]) ∧ DMk w0 w' g gd (m + 1) N K Ms) ∨
      (k < N - 111 ∧ e = .returned (.tuple #[.int .i64 (k : Int), .int .i64 0]) ∧ DMk w0 w' g gd (m + 1) N (newK K k x) Ms) := by
  obtain ⟨P, h1, h2, h3, h4⟩ := s
  refine (knew_any x h1 r.bad hm (by omega) hk).mono ?_
  have hl := r.ok.len
  rintro e w' (⟨hn, _⟩ | ⟨_, hn, rfl, ht⟩ | ⟨_, hn, rfl, ht⟩)
  · exact absurd hx hn
  · exact .inl ⟨by omega, rfl, DMk.turn h2 h3 h4 (Nat.le_succ _) ht⟩
  · exact .inr ⟨by omega, rfl, DMk.turn h2 h3 h4 (Nat.le_succ _) ht⟩
theorem dmk_drop (s : DMk w0 w g gd m N K Ms) (r : Run11 N K h c) (A : Option Addr) (q d : Nat) (l : List Int) (hl : l.length = q) (hx : Ints w w.heap.size A l) (hq : q ≤ 100000) :
    Calls Tryz.prog 18 #[.pointer (some ⟨g, 0, none⟩), .slice A q d] w fun e w' => e = .returned (.int .i64 (dropE K l)) ∧ DMk w0 w' g gd m N (dropK K l) Ms := by
  obtain ⟨P, h1, h2, h3, h4⟩ := s
  refine (kdrop_any A q d l h1 r.bad hl hx hq).mono ?_
  rintro e w' ⟨rfl, ht⟩
  exact ⟨rfl, DMk.turn h2 h3 h4 (Nat.le_refl _) ht⟩
theorem dmk_mark (s : DMk w0 w g gd m N K Ms) (r : Run11 N K h c) :
    Calls Tryz.prog 21 #[.pointer (some ⟨g, 0, none⟩)] w fun e w' => ∃ st, e = .returned (.agg #[.pointer (some ⟨st, 0, none⟩)]) ∧ DMk w0 w' g gd m N K (.mark st K.syncs K.F K.H :: Ms) ∧ Below w.heap.size w w' := by
  obtain ⟨P, h1, h2, h3, h4⟩ := s
  refine (deskmark_any h1).mono ?_
  rintro e w' ⟨st, rfl, hk, hb⟩
  rw [r.ok.len] at hk
  obtain ⟨mb, rb, k1, k2, k3, k4, k5, k6⟩ := hk
  have hlt : ∀ b, w.heap.size ≤ b → b ∉ P := fun b hl hm => by have := h1.lt hm; omega
  refine ⟨st, rfl, ⟨P, h1.below hb, h2, h3.trans (hb.mono h3.size), fun M hM => ?_⟩, hb⟩
  rcases List.mem_cons.1 hM with rfl | hM
  · exact ⟨mb, rb, hlt _ k1, hlt _ k2, hlt _ k3, k4, k5, k6⟩
  · exact (h4 M hM).turn (fun b hb => .inl hb) (Keep.of_below hb) (Nat.le_refl _)
theorem dmk_back (s : DMk w0 w g gd m N K Ms) (r : Run11 N K h c) {st : Nat} {sy : Int} {F : Int → ByteArray} {H : List Int} (hM : MK.mark st sy F H ∈ Ms) (hsy : sy = K.syncs) :
    Calls Tryz.prog 23 #[.pointer (some ⟨g, 0, none⟩), .agg #[.pointer (some ⟨st, 0, none⟩)]] w fun e w' => e = .returned (.tuple #[]) ∧ DMk w0 w' g gd m N (backK K F H) Ms := by
  obtain ⟨P, h1, h2, h3, h4⟩ := s
  have hk := (h4 _ hM).at
  rw [← r.ok.len] at hk
  refine (kback_any h1 hk hsy).mono ?_
  rintro e w' ⟨rfl, ht⟩
  exact ⟨rfl, DMk.turn h2 h3 h4 (Nat.le_refl _) ht⟩
end
end Go.Proofs.YtnamokngiebicaaGreatDoor
