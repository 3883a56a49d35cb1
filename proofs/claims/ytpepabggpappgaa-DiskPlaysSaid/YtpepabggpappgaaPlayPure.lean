/-
  Acts on a disk, as plain data; a disk and the document's beside each other in memory. No statement is proved here.
-/
import Derived.Test.YtpepabggpappgaaPlainSame
import Derived.Test.YtpepabggpappgaaBookWrites
namespace Go.Proofs.Ytpepabggpappgaa
open Go.RowKit

/-- An act as it lies in memory. -/
structure OpD where
  kind : Int
  a : Int
  wa : Option Addr
  wc : Nat
  w : List (Int × ByteArray)
  own : Bool
  la : Option Addr
  lc : Nat
  l : List Int
def OpD.cells (d : OpD) : Array Value := #[.int .i64 d.kind, .int .i64 d.a, .slice d.wa d.w.length d.wc, .bool d.own, .slice d.la d.l.length d.lc]
/-- Writes below block B. -/
def LowW (w : World) (B : Nat) (A : Option Addr) (l : List (Int × ByteArray)) : Prop :=
  0 < l.length → ∃ b off, A = some ⟨b, off, none⟩ ∧ b < B ∧ b < w.heap.size ∧ ∀ (j : Nat) (x : Int × ByteArray), l[j]? = some x → w.cell? ⟨b, off + j * 2, none⟩ = some (.int .i64 x.1) ∧ w.cell? ⟨b, off + j * 2 + 1, none⟩ = some (.string x.2)
theorem LowW.keep {w w' : World} {B : Nat} {A : Option Addr} {l : List (Int × ByteArray)} {O : List Nat} (h : LowW w B A l) (hk : Keep O w w') (hO : ∀ b ∈ O, B ≤ b) : LowW w' B A l := by
  intro hp
  obtain ⟨b, off, e, h1, h2, h3⟩ := h hp
  have hb := hk.block b h2 (fun hm => by have := hO b hm; omega)
  exact ⟨b, off, e, h1, Nat.lt_of_lt_of_le h2 hk.size, fun j x hx => ⟨(World.cell?_of_block (a := ⟨b, off + j * 2, none⟩) hb).trans (h3 j x hx).1, (World.cell?_of_block (a := ⟨b, off + j * 2 + 1, none⟩) hb).trans (h3 j x hx).2⟩⟩
theorem LowW.win {w : World} {B : Nat} {A : Option Addr} {l : List (Int × ByteArray)} (h : LowW w B A l) : WIn w A l := fun hp => by
  obtain ⟨b, off, e, _, h2, h3⟩ := h hp
  exact ⟨b, off, e, h2, h3⟩
theorem Low.ints {w : World} {B : Nat} {A : Option Addr} {l : List Int} (h : Low w B A l) : Ints w A l := fun hp => by
  obtain ⟨b, off, e, _, h2, h3⟩ := h hp
  exact ⟨b, off, e, h2, h3⟩
theorem Low.far {w : World} {B : Nat} {A : Option Addr} {l : List Int} {O : List Nat} (h : Low w B A l) (hO : ∀ b ∈ O, B ≤ b) : FarInts A l O := fun hp a e hm => by
  obtain ⟨b, off, e', h1, _, _⟩ := h hp
  rw [e] at e'
  injection e' with e'
  subst e'
  have := hO _ hm
  simp at this
  omega
structure OpD.In (d : OpD) (w : World) (B : Nat) : Prop where
  ws : LowW w B d.wa d.w
  wn : d.wa = none → d.wc = 0
  ls : Low w B d.la d.l
  ln : d.la = none → d.l.length = 0 ∧ d.lc = 0
theorem OpD.In.keep {d : OpD} {w w' : World} {B : Nat} {O : List Nat} (h : d.In w B) (hk : Keep O w w') (hO : ∀ b ∈ O, B ≤ b) : d.In w' B := ⟨h.ws.keep hk hO, h.wn, h.ls.keep hk hO, h.ln⟩
/-- Few and short. -/
def OpD.light (d : OpD) : Prop := d.w.length ≤ 6000 ∧ d.l.length ≤ 6000 ∧ ∀ x ∈ d.w, x.2.size ≤ 6000
def OpD.done (d : OpD) : List (Int × ByteArray) := if d.own then d.w.map (fun x => (x.1, fillB x.2)) else d.w
theorem OpD.done_len (d : OpD) : d.done.length = d.w.length := by unfold OpD.done; split <;> simp
def DS.act (S : DS) (d : OpD) : DS :=
  if d.kind = 1 then S.write d.done else if d.kind = 2 then S.flush else if d.kind = 3 then S.crash d.l else if d.kind = 4 then S.restore else if d.kind = 5 then S.arm d.a d.l else S
theorem DS.write_nil (S : DS) : S.write [] = S := by unfold DS.write DS.writeL; split <;> rfl

/-- Sectors of 256 bytes at most. -/
structure DS.Small (S : DS) : Prop where
  now : ∀ x ∈ S.now, x.size ≤ 256
  safe : ∀ x ∈ S.safe, x.size ≤ 256
  dirty : ∀ x ∈ S.dirty, x.2.size ≤ 256
theorem kept_mem (keep : List Int) (n : Nat) : ∀ (d : List (Nat × ByteArray)) (i : Nat) (s : List ByteArray), (∀ x ∈ s, x.size ≤ n) → (∀ x ∈ d, x.2.size ≤ n) → ∀ x ∈ keptL keep i d s, x.size ≤ n
  | [], _, _, hs, _ => hs
  | w :: r, i, s, hs, hd => by
    refine kept_mem keep n r (i + 1) _ ?_ (fun x hx => hd x (by simp [hx]))
    split
    · intro x hx
      rcases List.mem_or_eq_of_mem_set hx with hx | rfl
      · exact hs x hx
      · exact hd w (by simp)
    · exact hs
theorem DS.Small.crash {S : DS} (h : S.Small) (keep : List Int) : (S.crash keep).Small := by
  unfold DS.crash
  split
  · exact ⟨kept_mem keep 256 _ _ _ h.safe h.dirty, kept_mem keep 256 _ _ _ h.safe h.dirty, by simp⟩
  · exact h
theorem DS.Small.failed {S : DS} (h : S.Small) : S.failed.Small := by
  unfold DS.failed
  split
  · split
    · exact ⟨h.now, h.safe, h.dirty⟩
    · exact h.crash _
  · exact h
theorem DS.Small.put {S : DS} (h : S.Small) (i : Nat) {x : ByteArray} (hx : x.size = 256) : (S.put i x).Small := by
  refine ⟨fun y hy => ?_, h.safe, fun y hy => ?_⟩
  · rcases List.mem_or_eq_of_mem_set (show y ∈ S.now.set i x from hy) with hy | rfl
    · exact h.now y hy
    · omega
  · rcases List.mem_append.1 (show y ∈ S.dirty ++ [(i, x)] from hy) with hy | hy
    · exact h.dirty y hy
    · have := List.mem_singleton.1 hy
      subst this
      show x.size ≤ 256
      omega
theorem DS.Small.write1 {S : DS} (h : S.Small) (at_ : Int) (x : ByteArray) : (S.write1 at_ x).Small := by
  unfold DS.write1
  split
  · rename_i hc
    exact (h.put _ hc.2.2).failed
  · exact h
theorem DS.Small.writeL {S : DS} (h : S.Small) (l : List (Int × ByteArray)) : (S.writeL l).Small := by
  induction l generalizing S with
  | nil => exact h
  | cons w r ih =>
    unfold DS.writeL
    split
    · exact ih (h.write1 _ _)
    · exact h.write1 _ _

/-- What holds of a disk on which k acts were done. -/
structure DS.Fit (S : DS) (k : Nat) : Prop where
  ok : S.Ok
  small : S.Small
  len : 0 < S.now.length ∧ S.now.length ≤ 2000
  writes : S.writes ≤ 6000 * k
  dirty : S.dirty.length ≤ 6000 * k
  left : S.left ≤ 9223372036854775807
  keep : S.keep.length ≤ 6000
theorem DS.failed_keep (S : DS) : S.failed.keep.length ≤ S.keep.length := by
  unfold DS.failed DS.crash
  split <;> (try split) <;> (try split) <;> simp
theorem DS.write1_keep (S : DS) (at_ : Int) (x : ByteArray) : (S.write1 at_ x).keep.length ≤ S.keep.length := by
  unfold DS.write1
  split
  · exact DS.failed_keep _
  · exact Nat.le_refl _
theorem DS.writeL_fit (l : List (Int × ByteArray)) : ∀ (S : DS), S.Ok → (S.writeL l).now.length = S.now.length ∧ (S.writeL l).writes ≤ S.writes + l.length ∧ (S.writeL l).dirty.length ≤ S.dirty.length + l.length ∧ (S.writeL l).left ≤ S.left ∧ (S.writeL l).keep.length ≤ S.keep.length := by
  induction l with
  | nil => intro S _; exact ⟨rfl, Nat.le_refl _, Nat.le_refl _, Nat.le_refl _, Nat.le_refl _⟩
  | cons w r ih =>
    intro S hok
    have h1 := DS.write1_len hok w.1 w.2
    have h2 := DS.write1_writes S w.1 w.2
    have h3 := DS.write1_dirty S w.1 w.2
    have h4 := DS.write1_left S w.1 w.2
    have h5 := DS.write1_keep S w.1 w.2
    rw [DS.writeL, List.length_cons]
    split
    · obtain ⟨q1, q2, q3, q4, q5⟩ := ih (S.write1 w.1 w.2) (hok.write1 _ _)
      exact ⟨by omega, by omega, by omega, by omega, by omega⟩
    · exact ⟨h1, by omega, by omega, h4, h5⟩
theorem DS.Fit.mono {S : DS} {k k' : Nat} (h : S.Fit k) (hk : k ≤ k') : S.Fit k' := ⟨h.ok, h.small, h.len, by have := h.writes; omega, by have := h.dirty; omega, h.left, h.keep⟩
theorem DS.Fit.act {S : DS} {k : Nat} (h : S.Fit k) {d : OpD} (hd : d.light) (ha : d.a ≤ 9223372036854775807) : (S.act d).Fit (k + 1) := by
  have e1 := h.writes
  have e2 := h.dirty
  have e0 := h.ok.len
  unfold DS.act
  split
  · unfold DS.write
    split
    · obtain ⟨q1, q2, q3, q4, q5⟩ := DS.writeL_fit d.done S h.ok
      rw [OpD.done_len] at q2 q3
      have := hd.1
      exact ⟨h.ok.writeL _, h.small.writeL _, by rw [q1]; exact h.len, by omega, by omega, Nat.le_trans q4 h.left, Nat.le_trans q5 h.keep⟩
    · exact h.mono (by omega)
  · split
    · have hs : S.flush.Small := by
        unfold DS.flush
        split
        · split
          · exact h.small.failed
          · have hf := h.small.failed
            refine ⟨hf.now, h.small.now, by simp⟩
        · exact h.small
      have hl : S.flush.now.length = S.now.length ∧ S.flush.writes = S.writes ∧ S.flush.dirty.length ≤ S.dirty.length ∧ S.flush.left ≤ S.left ∧ S.flush.keep.length ≤ S.keep.length := by
        have f1 := DS.failed_len h.ok
        have f2 := DS.failed_writes S
        have f3 := DS.failed_dirty S
        have f4 := DS.failed_left S
        have f5 := DS.failed_keep S
        unfold DS.flush
        split
        · split
          · exact ⟨f1, f2, f3, f4, f5⟩
          · exact ⟨f1, f2, by simp, f4, f5⟩
        · exact ⟨rfl, rfl, Nat.le_refl _, Nat.le_refl _, Nat.le_refl _⟩
      obtain ⟨q1, q2, q3, q4, q5⟩ := hl
      exact ⟨h.ok.flush, hs, by rw [q1]; exact h.len, by omega, by omega, Nat.le_trans q4 h.left, Nat.le_trans q5 h.keep⟩
    · split
      · have hl : (S.crash d.l).writes = S.writes ∧ (S.crash d.l).dirty.length ≤ S.dirty.length ∧ (S.crash d.l).left ≤ S.left ∧ (S.crash d.l).keep.length ≤ S.keep.length := by
          unfold DS.crash
          split <;> simp
        obtain ⟨q2, q3, q4, q5⟩ := hl
        exact ⟨h.ok.crash _, h.small.crash _, by rw [DS.crash_len h.ok]; exact h.len, by omega, by omega, Nat.le_trans q4 h.left, Nat.le_trans q5 h.keep⟩
      · split
        · exact ⟨h.ok.restore, ⟨h.small.now, h.small.safe, h.small.dirty⟩, h.len, by show S.writes ≤ _; omega, by show S.dirty.length ≤ _; omega, h.left, h.keep⟩
        · split
          · have hl : (S.arm d.a d.l).writes = S.writes ∧ (S.arm d.a d.l).dirty = S.dirty ∧ (S.arm d.a d.l).now = S.now ∧ (S.arm d.a d.l).safe = S.safe ∧ (S.arm d.a d.l).left ≤ 9223372036854775807 ∧ (S.arm d.a d.l).keep.length ≤ 6000 := by
              unfold DS.arm
              split
              · exact ⟨rfl, rfl, rfl, rfl, by simp, by simp⟩
              · exact ⟨rfl, rfl, rfl, rfl, by show d.a.toNat ≤ _; omega, hd.2.1⟩
            obtain ⟨q1, q2, q3, q4, q5, q6⟩ := hl
            exact ⟨h.ok.arm _ _, ⟨by rw [q3]; exact h.small.now, by rw [q4]; exact h.small.safe, by rw [q2]; exact h.small.dirty⟩, by rw [q3]; exact h.len, by omega, by rw [q2]; omega, q5, q6⟩
          · exact h.mono (by omega)

/-- A disk in block g and the document's in block p, of the same S, apart from each other and above B. -/
structure Two (w : World) (B : Nat) (O P : List Nat) (g p : Nat) (S T : DS) : Prop where
  d : DiskAt w O g S
  p : PlainAt w B P p T
  apart : ∀ b ∈ O, b ∉ P
  low : ∀ b ∈ O, B ≤ b
def PairAt (w : World) (B : Nat) (A : List Nat) (g p : Nat) (S : DS) : Prop := ∃ O P, A = O ++ P ∧ Two w B O P g p S S
def PairTurns (B : Nat) (A : List Nat) (g p : Nat) (S : DS) (w w' : World) : Prop := ∃ A', PairAt w' B A' g p S ∧ (∀ b ∈ A', b ∈ A ∨ w.heap.size ≤ b) ∧ Keep A w w'
section
variable {w w' w1 : World} {B : Nat} {O P A A2 : List Nat} {g p : Nat} {S T S' T' : DS}
theorem Two.base (h : Two w B O P g p S T) : B ≤ w.heap.size := by
  obtain ⟨vn, vs, vw, nv, ka, km, kc, -, h⟩ := h.p
  have := h.low
  have := h.blk.lt
  omega
theorem Two.mem (h : Two w B O P g p S T) {b : Nat} (hb : b ∈ O ++ P) : B ≤ b ∧ b < w.heap.size := by
  rcases List.mem_append.1 hb with hb | hb
  · exact ⟨h.low b hb, h.d.lt hb⟩
  · exact h.p.mem hb
theorem Two.far (h : Two w B O P g p S T) (hk : Keep A2 w w') (ha : ∀ b ∈ O ++ P, b ∉ A2) (hO : ∀ b ∈ A2, B ≤ b) : Two w' B O P g p S T :=
  ⟨h.d.far hk (fun b hb => ha b (by simp [hb])), h.p.far hk (fun b hb => ha b (by simp [hb])) hO, h.apart, h.low⟩
theorem Two.below (h : Two w B O P g p S T) (hb : Below w.heap.size w w') : Two w' B O P g p S T := h.far (A2 := []) (Keep.of_below hb) (by simp) (by simp)
/-- The disk's own call. -/
theorem Two.first (h : Two w B O P g p S T) (ht : Turns O g S' w w') : ∃ O', Two w' B O' P g p S' T ∧ (∀ b ∈ O', b ∈ O ∨ w.heap.size ≤ b) ∧ Keep O w w' := by
  obtain ⟨O', h1, h2, h3⟩ := ht
  refine ⟨O', ⟨h1, h.p.far h3 (fun b hb hm => h.apart b hm hb) h.low, fun b hb hm => ?_, fun b hb => ?_⟩, h2, h3⟩
  · rcases h2 b hb with hb | hb
    · exact h.apart b hb hm
    · have := (h.p.mem hm).2; omega
  · rcases h2 b hb with hb | hb
    · exact h.low b hb
    · exact Nat.le_trans h.base hb
/-- The document's own. -/
theorem Two.second (h : Two w B O P g p S T) (ht : TurnsP B P p T' w w') : ∃ P', Two w' B O P' g p S T' ∧ (∀ b ∈ P', b ∈ P ∨ w.heap.size ≤ b) ∧ Keep P w w' := by
  obtain ⟨P', h1, h2, h3⟩ := ht
  refine ⟨P', ⟨h.d.far h3 h.apart, h1, fun b hb hm => ?_, h.low⟩, h2, h3⟩
  rcases h2 b hm with hm | hm
  · exact h.apart b hb hm
  · have := h.d.lt hb; omega
theorem PairAt.mem (h : PairAt w B A g p S) {b : Nat} (hb : b ∈ A) : B ≤ b ∧ b < w.heap.size := by
  obtain ⟨O, P, rfl, h⟩ := h
  exact h.mem hb
theorem PairAt.far (h : PairAt w B A g p S) (hk : Keep A2 w w') (ha : ∀ b ∈ A, b ∉ A2) (hO : ∀ b ∈ A2, B ≤ b) : PairAt w' B A g p S := by
  obtain ⟨O, P, rfl, h⟩ := h
  exact ⟨O, P, rfl, h.far hk ha hO⟩
theorem PairAt.below (h : PairAt w B A g p S) (hb : Below w.heap.size w w') : PairAt w' B A g p S := h.far (A2 := []) (Keep.of_below hb) (by simp) (by simp)
theorem PairTurns.refl (h : PairAt w B A g p S) : PairTurns B A g p S w w := ⟨A, h, fun _ hb => .inl hb, Keep.refl _ _⟩
theorem PairTurns.after (hb : Below w.heap.size w w1) (h : PairTurns B A g p S w1 w') : PairTurns B A g p S w w' := by
  obtain ⟨A', h1, h2, h3⟩ := h
  refine ⟨A', h1, fun b hb1 => ?_, (Keep.of_below hb).trans h3 (fun _ hb => .inl hb)⟩
  rcases h2 b hb1 with h2 | h2
  · exact .inl h2
  · have := hb.size; exact .inr (by omega)
theorem PairTurns.below_in (h : PairTurns B A g p S w w1) (hb : Below w1.heap.size w1 w') : PairTurns B A g p S w w' := by
  obtain ⟨A', h1, h2, h3⟩ := h
  exact ⟨A', h1.below hb, h2, h3.below_in hb⟩
theorem Two.pair (h : Two w B O P g p S S) : PairAt w B (O ++ P) g p S := ⟨O, P, rfl, h⟩
/-- Both calls. -/
theorem Two.both (h : Two w B O P g p S S) (ht : Turns O g S' w w1) (hp : PlainAt w1 B P p S → TurnsP B P p S' w1 w') : PairTurns B (O ++ P) g p S' w w' := by
  obtain ⟨O', h1, h2, h3⟩ := h.first ht
  obtain ⟨P', k1, k2, k3⟩ := h1.second (hp h1.p)
  refine ⟨O' ++ P', k1.pair, fun b hb => ?_, (h3.mono (by intro b hb; exact .inl (by simp [hb]))).trans (k3.mono (O' := O ++ P) (by intro b hb; exact .inl (by simp [hb]))) (fun _ hb => .inl hb)⟩
  rcases List.mem_append.1 hb with hb | hb
  · rcases h2 b hb with h | h
    · exact .inl (by simp [h])
    · exact .inr h
  · rcases k2 b hb with h | h
    · exact .inl (by simp [h])
    · exact .inr (Nat.le_trans h3.size h)
theorem LentW.keep {w w' : World} {B g cap : Nat} {xs : List (Int × ByteArray)} {O : List Nat} (h : LentW w B g cap xs) (hk : Keep O w w') (hg : g ∉ O) : LentW w' B g cap xs := by
  obtain ⟨h0, h1, h2, h3, h4⟩ := h
  have hb := hk.block g h1 hg
  exact ⟨h0, Nat.lt_of_lt_of_le h1 hk.size, h2, h3, fun j x hx => ⟨(World.cell?_of_block (a := ⟨g, j * 2, none⟩) hb).trans (h4 j x hx).1, (World.cell?_of_block (a := ⟨g, j * 2 + 1, none⟩) hb).trans (h4 j x hx).2⟩⟩
theorem LentI.keep {w w' : World} {B g cap : Nat} {xs : List Int} {O : List Nat} (h : LentI w B g cap xs) (hk : Keep O w w') (hg : g ∉ O) : LentI w' B g cap xs := by
  obtain ⟨h0, h1, h2, h3, h4⟩ := h
  have hb := hk.block g h1 hg
  exact ⟨h0, Nat.lt_of_lt_of_le h1 hk.size, h2, h3, fun j x hx => (World.cell?_of_block (a := ⟨g, j, none⟩) hb).trans (h4 j x hx)⟩
end
end Go.Proofs.Ytpepabggpappgaa
