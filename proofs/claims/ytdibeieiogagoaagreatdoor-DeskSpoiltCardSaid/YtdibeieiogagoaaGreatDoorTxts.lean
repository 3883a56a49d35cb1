/-
  Lists of texts: how they lie, and their bytes one behind the other. No statement is proved here.
-/
import Derived.WalkKit
import Derived.Lib.Hide
import Derived.Test.YtdibeieiogagoaaGreatDoorProg
import Derived.Test.YtdibeieiogagoaaGreatDoorRowOps
import Derived.Deep.AppendLies
import Derived.Lib.Strings
namespace Go.Proofs.YtdibeieiogagoaaGreatDoor
open Go.RowKit

/-- Is the number odd? -/
def oddI (k : Int) : Bool := decide (k % 2 = 1)
/-- A disk: the sectors now, those that are safe, what was written since, in order. -/
structure DS where
  now : List ByteArray
  safe : List ByteArray
  dirty : List (Nat × ByteArray)
  on : Bool
  writes : Nat
  armed : Bool
  left : Nat
  keep : List Int

def setAll (s : List ByteArray) (l : List (Nat × ByteArray)) : List ByteArray := l.foldl (fun s w => s.set w.1 w.2) s
/-- What a crash keeps, from number i on. -/
def keptL (keep : List Int) : Nat → List (Nat × ByteArray) → List ByteArray → List ByteArray
  | _, [], s => s
  | i, w :: r, s => keptL keep (i + 1) r (if oddI (keep.getD i 0) then s.set w.1 w.2 else s)
def lostN (keep : List Int) : Nat → List (Nat × ByteArray) → Nat
  | _, [] => 0
  | i, _ :: r => (if oddI (keep.getD i 0) then 0 else 1) + lostN keep (i + 1) r

/-- What is written back where something was dirty. -/
def backL (safe : List ByteArray) (l : List (Nat × ByteArray)) (s : List ByteArray) : List ByteArray := l.foldl (fun s w => s.set w.1 (safe.getD w.1 .empty)) s

structure DS.Ok (S : DS) : Prop where
  now : S.now = setAll S.safe S.dirty
  fits : ∀ w ∈ S.dirty, w.1 < S.safe.length

theorem setAll_length (s : List ByteArray) (l : List (Nat × ByteArray)) : (setAll s l).length = s.length := by
  induction l generalizing s with
  | nil => rfl
  | cons w r ih => show (setAll (s.set w.1 w.2) r).length = _; rw [ih]; simp
theorem setAll_snoc (s : List ByteArray) (l : List (Nat × ByteArray)) (w : Nat × ByteArray) : setAll s (l ++ [w]) = (setAll s l).set w.1 w.2 := by
  unfold setAll; rw [List.foldl_append]; rfl
theorem keptL_length (keep : List Int) (i : Nat) (l : List (Nat × ByteArray)) (s : List ByteArray) : (keptL keep i l s).length = s.length := by
  induction l generalizing i s with
  | nil => rfl
  | cons w r ih => show (keptL keep (i + 1) r _).length = _; rw [ih]; split <;> simp
theorem keptL_snoc (keep : List Int) (i : Nat) (l : List (Nat × ByteArray)) (w : Nat × ByteArray) (s : List ByteArray) :
    keptL keep i (l ++ [w]) s = if oddI (keep.getD (i + l.length) 0) then (keptL keep i l s).set w.1 w.2 else keptL keep i l s := by
  induction l generalizing i s with
  | nil => rfl
  | cons v r ih =>
    show keptL keep (i + 1) (r ++ [w]) _ = _
    rw [ih, List.length_cons, show i + 1 + r.length = i + (r.length + 1) by omega]
    rfl
theorem lostN_snoc (keep : List Int) (i : Nat) (l : List (Nat × ByteArray)) (w : Nat × ByteArray) : lostN keep i (l ++ [w]) = lostN keep i l + (if oddI (keep.getD (i + l.length) 0) then 0 else 1) := by
  induction l generalizing i with
  | nil => simp [lostN]
  | cons v r ih =>
    show _ + lostN keep (i + 1) (r ++ [w]) = _
    rw [ih, List.length_cons, show i + 1 + r.length = i + (r.length + 1) by omega]
    simp only [lostN]
    omega
theorem lostN_le (keep : List Int) (i : Nat) (l : List (Nat × ByteArray)) : lostN keep i l ≤ l.length := by
  induction l generalizing i with
  | nil => exact Nat.le_refl _
  | cons v r ih => have := ih (i + 1); simp only [lostN, List.length_cons]; split <;> omega
theorem backL_length (safe : List ByteArray) (l : List (Nat × ByteArray)) (s : List ByteArray) : (backL safe l s).length = s.length := by
  induction l generalizing s with
  | nil => rfl
  | cons w r ih => show (backL safe r (s.set w.1 (safe.getD w.1 .empty))).length = _; rw [ih]; simp
theorem backL_snoc (safe : List ByteArray) (l : List (Nat × ByteArray)) (w : Nat × ByteArray) (s : List ByteArray) : backL safe (l ++ [w]) s = (backL safe l s).set w.1 (safe.getD w.1 .empty) := by
  unfold backL; rw [List.foldl_append]; rfl
/-- Where nothing was written it is as it was. -/
theorem setAll_far (l : List (Nat × ByteArray)) (s : List ByteArray) {k : Nat} (h : ∀ w ∈ l, w.1 ≠ k) : (setAll s l)[k]? = s[k]? := by
  induction l generalizing s with
  | nil => rfl
  | cons w r ih =>
    show (setAll (s.set w.1 w.2) r)[k]? = _
    rw [ih _ (fun v hv => h v (by simp [hv])), List.getElem?_set_ne (h w (by simp))]
theorem keptL_far (keep : List Int) (l : List (Nat × ByteArray)) (i : Nat) (s : List ByteArray) {k : Nat} (h : ∀ w ∈ l, w.1 ≠ k) : (keptL keep i l s)[k]? = s[k]? := by
  induction l generalizing i s with
  | nil => rfl
  | cons w r ih =>
    show (keptL keep (i + 1) r (if oddI (keep.getD i 0) then s.set w.1 w.2 else s))[k]? = _
    rw [ih _ _ (fun v hv => h v (by simp [hv]))]
    split
    · rw [List.getElem?_set_ne (h w (by simp))]
    · rfl
theorem backL_far (safe : List ByteArray) (l : List (Nat × ByteArray)) (s : List ByteArray) {k : Nat} (h : ∀ w ∈ l, w.1 ≠ k) : (backL safe l s)[k]? = s[k]? := by
  induction l generalizing s with
  | nil => rfl
  | cons w r ih =>
    show (backL safe r (s.set w.1 (safe.getD w.1 .empty)))[k]? = _
    rw [ih _ (fun v hv => h v (by simp [hv])), List.getElem?_set_ne (h w (by simp))]
theorem backL_here (safe : List ByteArray) (l : List (Nat × ByteArray)) (s : List ByteArray) {k : Nat} (hk : k < s.length) (hs : k < safe.length) (h : ∃ w ∈ l, w.1 = k) : (backL safe l s)[k]? = safe[k]? := by
  induction l generalizing s with
  | nil => obtain ⟨w, hw, _⟩ := h; cases hw
  | cons w r ih =>
    show (backL safe r (s.set w.1 (safe.getD w.1 .empty)))[k]? = _
    by_cases hr : ∃ v ∈ r, v.1 = k
    · exact ih _ (by simpa using hk) hr
    · obtain ⟨v, hv, e⟩ := h
      have hw : w.1 = k := by
        rcases List.mem_cons.1 hv with rfl | hv
        · exact e
        · exact absurd ⟨v, hv, e⟩ hr
      rw [backL_far _ _ _ (fun v hv e => hr ⟨v, hv, e⟩), hw, List.getElem?_set_self hk, List.getD_eq_getElem?_getD, List.getElem?_eq_getElem hs]
      rfl
/-- Behind a crash the sectors are those that are safe. -/
theorem back_all {S : DS} (h : S.Ok) (keep : List Int) : backL (keptL keep 0 S.dirty S.safe) S.dirty S.now = keptL keep 0 S.dirty S.safe := by
  have hl : S.now.length = S.safe.length := by rw [h.now, setAll_length]
  apply List.ext_getElem?
  intro k
  by_cases hk : k < S.safe.length
  · by_cases hd : ∃ w ∈ S.dirty, w.1 = k
    · exact backL_here _ _ _ (by omega) (by rw [keptL_length]; exact hk) hd
    · have hf : ∀ w ∈ S.dirty, w.1 ≠ k := fun w hw e => hd ⟨w, hw, e⟩
      rw [backL_far _ _ _ hf, keptL_far _ _ _ _ hf, h.now, setAll_far _ _ hf]
  · rw [List.getElem?_eq_none (by rw [backL_length]; omega), List.getElem?_eq_none (by rw [keptL_length]; omega)]

/-- P702. -/
def DS.crash (S : DS) (keep : List Int) : DS :=
  if S.on then { now := keptL keep 0 S.dirty S.safe, safe := keptL keep 0 S.dirty S.safe, dirty := [], on := false, writes := S.writes, armed := false, left := 0, keep := [] } else S
def DS.lost (S : DS) (keep : List Int) : Nat := if S.on then lostN keep 0 S.dirty else 0
/-- Does the power go now, and what is then? -/
def DS.fails (S : DS) : Bool := S.armed && decide (S.left = 0)
def DS.failed (S : DS) : DS := if S.armed then (if 0 < S.left then { S with left := S.left - 1 } else S.crash S.keep) else S
/-- One sector written, nothing asked of the power. -/
def DS.put (S : DS) (at_ : Nat) (data : ByteArray) : DS := { S with now := S.now.set at_ data, dirty := S.dirty ++ [(at_, data)], writes := S.writes + 1 }
def DS.write1 (S : DS) (at_ : Int) (data : ByteArray) : DS :=
  if 0 ≤ at_ ∧ at_ < (S.now.length : Int) ∧ data.size = 256 then (S.put at_.toNat data).failed else S
def DS.err1 (S : DS) (at_ : Int) (data : ByteArray) : Int :=
  if 0 ≤ at_ ∧ at_ < (S.now.length : Int) then (if data.size = 256 then (if (S.put at_.toNat data).fails then 14 else 0) else 1) else 15
def DS.writeL (S : DS) : List (Int × ByteArray) → DS
  | [] => S
  | w :: r => if S.err1 w.1 w.2 = 0 then (S.write1 w.1 w.2).writeL r else S.write1 w.1 w.2
def DS.errL (S : DS) : List (Int × ByteArray) → Int
  | [] => 0
  | w :: r => if S.err1 w.1 w.2 = 0 then (S.write1 w.1 w.2).errL r else S.err1 w.1 w.2
def DS.write (S : DS) (l : List (Int × ByteArray)) : DS := if S.on then S.writeL l else S
def DS.errW (S : DS) (l : List (Int × ByteArray)) : Int := if S.on then S.errL l else 14
def DS.flush (S : DS) : DS := if S.on then (if S.fails then S.failed else { S.failed with safe := S.now, dirty := [] }) else S
def DS.errF (S : DS) : Int := if S.on then (if S.fails then 14 else 0) else 14
def DS.restore (S : DS) : DS := { S with on := true }
def DS.arm (S : DS) (n : Int) (keep : List Int) : DS := if n < 0 then { S with armed := false, left := 0, keep := [] } else { S with armed := true, left := n.toNat, keep := keep }
def DS.read (S : DS) (at_ : Int) : ByteArray := if S.on = true ∧ 0 ≤ at_ ∧ at_ < (S.now.length : Int) then S.now.getD at_.toNat .empty else .empty
def DS.errR (S : DS) (at_ : Int) : Int := if S.on then (if 0 ≤ at_ ∧ at_ < (S.now.length : Int) then 0 else 15) else 14
def DS.fresh (n : Nat) (z : ByteArray) : DS := { now := List.replicate n z, safe := List.replicate n z, dirty := [], on := true, writes := 0, armed := false, left := 0, keep := [] }

theorem DS.Ok.fresh (n : Nat) (z : ByteArray) : (DS.fresh n z).Ok := ⟨rfl, by intro w hw; cases hw⟩
theorem DS.Ok.len {S : DS} (h : S.Ok) : S.now.length = S.safe.length := by rw [h.now, setAll_length]
theorem DS.Ok.put {S : DS} (h : S.Ok) {at_ : Nat} (ha : at_ < S.now.length) (data : ByteArray) : (S.put at_ data).Ok := by
  refine ⟨?_, ?_⟩
  · show S.now.set at_ data = setAll S.safe (S.dirty ++ [(at_, data)])
    rw [setAll_snoc, ← h.now]
  · intro w hw
    rcases List.mem_append.1 hw with hw | hw
    · exact h.fits w hw
    · simp at hw
      subst hw
      have := h.len
      show at_ < S.safe.length
      omega
theorem DS.Ok.crash {S : DS} (h : S.Ok) (keep : List Int) : (S.crash keep).Ok := by
  unfold DS.crash
  split
  · exact ⟨rfl, by intro w hw; cases hw⟩
  · exact h
theorem DS.Ok.failed {S : DS} (h : S.Ok) : S.failed.Ok := by
  unfold DS.failed
  split
  · split
    · exact ⟨h.now, h.fits⟩
    · exact h.crash _
  · exact h
theorem DS.Ok.write1 {S : DS} (h : S.Ok) (at_ : Int) (data : ByteArray) : (S.write1 at_ data).Ok := by
  unfold DS.write1
  split
  · rename_i hc
    exact (h.put (by omega) _).failed
  · exact h
theorem DS.Ok.writeL {S : DS} (h : S.Ok) (l : List (Int × ByteArray)) : (S.writeL l).Ok := by
  induction l generalizing S with
  | nil => exact h
  | cons w r ih =>
    unfold DS.writeL
    split
    · exact ih (h.write1 _ _)
    · exact h.write1 _ _
theorem DS.Ok.write {S : DS} (h : S.Ok) (l : List (Int × ByteArray)) : (S.write l).Ok := by
  unfold DS.write
  split
  · exact h.writeL l
  · exact h
theorem DS.Ok.flush {S : DS} (h : S.Ok) : S.flush.Ok := by
  unfold DS.flush
  split
  · split
    · exact h.failed
    · rename_i hf
      refine ⟨?_, by intro w hw; cases hw⟩
      show S.failed.now = S.now
      unfold DS.failed
      unfold DS.fails at hf
      split
      · split
        · rfl
        · simp_all
      · rfl
  · exact h
theorem DS.Ok.restore {S : DS} (h : S.Ok) : S.restore.Ok := ⟨h.now, h.fits⟩
theorem DS.Ok.arm {S : DS} (h : S.Ok) (n : Int) (keep : List Int) : (S.arm n keep).Ok := by
  unfold DS.arm
  split <;> exact ⟨h.now, h.fits⟩
theorem DS.crash_len {S : DS} (h : S.Ok) (keep : List Int) : (S.crash keep).now.length = S.now.length := by
  unfold DS.crash
  split
  · show (keptL keep 0 S.dirty S.safe).length = _
    rw [keptL_length, h.len]
  · rfl
theorem DS.failed_len {S : DS} (h : S.Ok) : S.failed.now.length = S.now.length := by
  unfold DS.failed
  split
  · split
    · rfl
    · exact DS.crash_len h _
  · rfl
theorem DS.write1_len {S : DS} (h : S.Ok) (at_ : Int) (data : ByteArray) : (S.write1 at_ data).now.length = S.now.length := by
  unfold DS.write1
  split
  · rename_i hc
    rw [DS.failed_len (h.put (by omega) _)]
    show (S.now.set _ _).length = _
    simp
  · rfl
theorem DS.failed_writes (S : DS) : S.failed.writes = S.writes := by
  unfold DS.failed DS.crash
  split <;> (try split) <;> (try split) <;> rfl
theorem DS.write1_writes (S : DS) (at_ : Int) (data : ByteArray) : (S.write1 at_ data).writes ≤ S.writes + 1 := by
  unfold DS.write1
  split
  · rw [DS.failed_writes]; exact Nat.le_refl _
  · omega
theorem DS.failed_dirty (S : DS) : S.failed.dirty.length ≤ S.dirty.length := by
  unfold DS.failed DS.crash
  split <;> (try split) <;> (try split) <;> simp
theorem DS.write1_dirty (S : DS) (at_ : Int) (data : ByteArray) : (S.write1 at_ data).dirty.length ≤ S.dirty.length + 1 := by
  unfold DS.write1
  split
  · refine Nat.le_trans (DS.failed_dirty _) ?_
    show (S.dirty ++ [_]).length ≤ _
    simp
  · omega
/-- A write that is done leaves the power on. -/
theorem DS.write1_on {S : DS} {at_ : Int} {data : ByteArray} (h : S.err1 at_ data = 0) (ho : S.on = true) : (S.write1 at_ data).on = true := by
  unfold DS.err1 at h
  split at h
  · rename_i h1
    split at h
    · rename_i h2
      split at h
      · cases h
      · rename_i h3
        unfold DS.write1
        rw [if_pos ⟨h1.1, h1.2, h2⟩]
        unfold DS.fails at h3
        unfold DS.failed
        split
        · split
          · exact ho
          · simp_all
        · exact ho
    · cases h
  · cases h
end Go.Proofs.YtdibeieiogagoaaGreatDoor

namespace Go.Proofs.YtdibeieiogagoaaGreatDoor
open Go.RowKit

/-- All but the blocks of O is as it was. -/
structure Keep (O : List Nat) (w w' : World) : Prop where
  os : w'.os = w.os
  tape : w'.tape = w.tape
  output : w'.output = w.output
  size : w.heap.size ≤ w'.heap.size
  block : ∀ k, k < w.heap.size → k ∉ O → w'.heap[k]? = w.heap[k]?

section
variable {w w' w'' : World} {O O' : List Nat} {B : Nat}
theorem Keep.refl (O : List Nat) (w : World) : Keep O w w := ⟨rfl, rfl, rfl, Nat.le_refl _, fun _ _ _ => rfl⟩
theorem Keep.trans (h : Keep O w w') (k : Keep O' w' w'') (hO : ∀ b ∈ O', b ∈ O ∨ w.heap.size ≤ b) : Keep O w w'' :=
  ⟨k.os.trans h.os, k.tape.trans h.tape, k.output.trans h.output, Nat.le_trans h.size k.size, fun i hi hn => (k.block i (Nat.lt_of_lt_of_le hi h.size) (fun hm => by
    rcases hO i hm with h1 | h1
    · exact hn h1
    · omega)).trans (h.block i hi hn)⟩
theorem Keep.trans' (h : Keep O w w') (k : Keep O w' w'') : Keep O w w'' := h.trans k fun _ hb => .inl hb
theorem Keep.drew (h : Keep O w w') : Keep O w w'.drew := ⟨h.os, h.tape, h.output, h.size, h.block⟩
theorem Keep.drewN (h : Keep O w w') (n : Nat) : Keep O w (w'.drewN n) := ⟨h.os, h.tape, h.output, h.size, h.block⟩
theorem Keep.alloc (h : Keep O w w') (o : Obj) : Keep O w (w'.alloc o) :=
  h.trans (O' := []) ⟨rfl, rfl, rfl, by simp, fun k hk _ => Below.heap_alloc _ _ _ hk⟩ (by simp)
theorem Keep.put (h : Keep O w w') {g : Nat} (hg : g ∈ O ∨ w.heap.size ≤ g) (i : Nat) (u : Value) : Keep O w (w'.setCell ⟨g, i, none⟩ u) :=
  h.trans (O' := [g]) ⟨rfl, rfl, rfl, by simp [World.setCell], fun k _ hn => Below.heap_setCell _ _ _ _ (fun e => hn (by simpa using e))⟩ (by simpa using hg)
theorem Keep.below_in (h : Keep O w w') (k : Below w'.heap.size w' w'') : Keep O w w'' :=
  h.trans (O' := []) ⟨k.os, k.tape, k.output, k.size, fun i hi _ => k.block i hi⟩ (by simp)
theorem Keep.of_below (k : Below w.heap.size w w') : Keep O w w' := (Keep.refl O w).below_in k
theorem Keep.by_in (h : Keep O w w') {row : Option Nat} (k : w'.grownBy w'' row) (hr : ∀ g, row = some g → g ∈ O ∨ w.heap.size ≤ g) : Keep O w w'' :=
  h.trans (O' := row.toList) ⟨k.os, k.tape, k.output, k.size, fun i hi hn => k.block i hi (fun e => hn (by rw [← e]; simp))⟩ (by intro b hb; exact hr b (by simpa using hb))
/-- As seen from a base below all of O. -/
theorem Keep.below (h : Keep O w w') (hO : ∀ b ∈ O, B ≤ b) (hB : B ≤ w.heap.size) : Below B w w' :=
  ⟨h.os, h.tape, h.output, h.size, fun i hi => h.block i (by omega) (fun hm => by have := hO i hm; omega)⟩
theorem Below.keep_new {w0 : World} (h : Below w0.heap.size w0 w) (k : Keep O w w') (hO : ∀ b ∈ O, w0.heap.size ≤ b) : Below w0.heap.size w0 w' := h.trans (k.below hO h.size)
theorem Keep.mono (h : Keep O w w') (hO : ∀ b ∈ O, b ∈ O' ∨ w.heap.size ≤ b) : Keep O' w w' :=
  ⟨h.os, h.tape, h.output, h.size, fun i hi hn => h.block i hi (fun hm => by
    rcases hO i hm with h1 | h1
    · exact hn h1
    · omega)⟩
end

section
variable {w w' : World} {base : Nat} {e : TypeId} {size : Nat} {v : Value} {n : Nat} {xs : List Value} {O : List Nat}
/-- A row depends on its block alone. -/
theorem row_kept (h : w.ownsRow base e size v n xs) (hb : ∀ k, v.ownBlock = some k → w'.heap[k]? = w.heap[k]?) : w'.ownsRow base e size v n xs := by
  refine ⟨h.1, ?_⟩
  rcases h.2 with hn | ⟨g, cap, cur, rfl, hb1, hgg, rest⟩
  · exact .inl hn
  · exact .inr ⟨g, cap, cur, rfl, hb1, by rw [hb g rfl]; exact hgg, rest⟩
theorem row_keep (h : w.ownsRow base e size v n xs) (hk : Keep O w w') (ha : ∀ k, v.ownBlock = some k → k ∉ O) : w'.ownsRow base e size v n xs :=
  row_kept h fun k hv => hk.block k (h.lt k hv).2 (ha k hv)
theorem row_slice (h : w.ownsRow base e size v n xs) : ∃ p cap, v = .slice p n cap ∧ n ≤ cap ∧ cap ≤ 9223372036854775807 ∧ (p = none → n = 0) ∧ (∀ a, p = some a → a = ⟨a.block, 0, none⟩) := by
  rcases h.2 with ⟨rfl, rfl⟩ | ⟨g, cap, cur, rfl, _, _, h1, h2, _⟩
  · exact ⟨none, 0, rfl, by omega, by omega, fun _ => rfl, fun _ h => by cases h⟩
  · exact ⟨some ⟨g, 0, none⟩, cap, rfl, h1, by simpa [maxLen] using h2, (fun h => by cases h), fun a h => by cases h; rfl⟩
theorem row_cell {g cap : Nat} (h : w.ownsRow base e size (.slice (some ⟨g, 0, none⟩) n cap) n xs) {i : Nat} {u : Value} (hi : xs[i]? = some u) : w.cell? ⟨g, i, none⟩ = some u := by
  have := h.cells (g := g) rfl i u hi
  rwa [add_off, Nat.zero_add] at this
theorem row_frozen {g cap : Nat} (h : w.ownsRow base e size (.slice (some ⟨g, 0, none⟩) n cap) n xs) (i : Nat) : w.frozen? ⟨g, i, none⟩ = false := by
  rcases h.2 with ⟨h, _⟩ | ⟨g', cap', cur, h, _, hg, _⟩
  · cases h
  · injection h with h1 _ _
    injection h1 with h1
    injection h1 with h1 _ _
    subst h1
    exact Blk.frozen (show Blk w g e cur from hg) i
/-- A cell of a row written. -/
theorem row_put {g cap : Nat} (h : w.ownsRow base e 1 (.slice (some ⟨g, 0, none⟩) n cap) n xs) {i : Nat} (u : Value) : (w.setCell ⟨g, i, none⟩ u).ownsRow base e 1 (.slice (some ⟨g, 0, none⟩) n cap) n (xs.set i u) := by
  refine ⟨by rw [List.length_set]; exact h.1, ?_⟩
  rcases h.2 with ⟨h, _⟩ | ⟨g', cap', cur, h, hb, hg, h1, h2, h3, h4⟩
  · cases h
  · injection h with e1 _ e3
    injection e1 with e1
    injection e1 with e1 _ _
    subst e1 e3
    refine .inr ⟨g, cap, cur.setIfInBounds i u, rfl, hb, Blk.put (show Blk w g e cur from hg) i u, h1, h2, by rw [Array.size_setIfInBounds]; exact h3, ?_⟩
    rw [Array.toList_setIfInBounds, ← h4, List.take_set]
theorem row_far {p : Addr} (h : w.ownsRow base e size v n xs) (hp : v.ownBlock ≠ some p.block) (u : Value) : (w.setCell p u).ownsRow base e size v n xs :=
  row_kept h fun k hk => Below.heap_setCell _ _ _ _ (fun e => hp (by rw [hk, e]))
end

/-- Writes, as cells. -/
def flatW (l : List (Nat × ByteArray)) : List Value := l.flatMap fun x => [.int .i64 ((x.1 : Nat) : Int), .string x.2]
theorem flatW_snoc (l : List (Nat × ByteArray)) (x : Nat × ByteArray) : flatW (l ++ [x]) = flatW l ++ [.int .i64 ((x.1 : Nat) : Int), .string x.2] := by simp [flatW]
theorem flatW_len (l : List (Nat × ByteArray)) : (flatW l).length = l.length * 2 := by
  induction l with
  | nil => rfl
  | cons x r ih => show (_ :: _ :: flatW r).length = _; rw [List.length_cons, List.length_cons, ih, List.length_cons]; omega
theorem flatW_get {l : List (Nat × ByteArray)} {j : Nat} {x : Nat × ByteArray} (h : l[j]? = some x) : (flatW l)[2 * j]? = some (.int .i64 ((x.1 : Nat) : Int)) ∧ (flatW l)[2 * j + 1]? = some (.string x.2) := by
  induction l generalizing j with
  | nil => cases h
  | cons y r ih =>
    have e : flatW (y :: r) = .int .i64 ((y.1 : Nat) : Int) :: .string y.2 :: flatW r := rfl
    rw [e]
    cases j with
    | zero =>
      rw [List.getElem?_cons_zero] at h
      injection h with h
      subst h
      exact ⟨rfl, rfl⟩
    | succ j =>
      rw [List.getElem?_cons_succ] at h
      have := ih h
      rw [show 2 * (j + 1) = (2 * j + 1) + 1 by omega, show (2 * j + 1) + 1 + 1 = (2 * j + 1 + 1) + 1 by omega]
      simp only [List.getElem?_cons_succ]
      exact this

/-- The disk in block g: S, its rows and their room. -/
structure DiskIs (w : World) (g gn gs cn cs : Nat) (vd vk : Value) (S : DS) : Prop where
  blk : Blk w g 84 #[.slice (some ⟨gn, 0, none⟩) S.now.length cn, .slice (some ⟨gs, 0, none⟩) S.safe.length cs, vd, .bool S.on, .int .i64 (S.writes : Int), .bool S.armed, .int .i64 (S.left : Int), vk]
  now : w.ownsRow 0 9 1 (.slice (some ⟨gn, 0, none⟩) S.now.length cn) S.now.length (S.now.map Value.string)
  safe : w.ownsRow 0 9 1 (.slice (some ⟨gs, 0, none⟩) S.safe.length cs) S.safe.length (S.safe.map Value.string)
  dirty : w.ownsRow 0 68 2 vd S.dirty.length (flatW S.dirty)
  keep : w.ownsRow 0 3 1 vk S.keep.length (S.keep.map (Value.int .i64))
  apart : (g :: gn :: gs :: (vd.ownBlock.toList ++ vk.ownBlock.toList)).Nodup
/-- .. with the blocks that it holds. -/
def DiskAt (w : World) (O : List Nat) (g : Nat) (S : DS) : Prop :=
  ∃ gn gs cn cs vd vk, O = g :: gn :: gs :: (vd.ownBlock.toList ++ vk.ownBlock.toList) ∧ DiskIs w g gn gs cn cs vd vk S
/-- What a call leaves that works on one disk. -/
def Turns (O : List Nat) (g : Nat) (S : DS) (w w' : World) : Prop := ∃ O', DiskAt w' O' g S ∧ (∀ b ∈ O', b ∈ O ∨ w.heap.size ≤ b) ∧ Keep O w w'

section
variable {w w' w'' : World} {O O2 : List Nat} {g gn gs cn cs : Nat} {vd vk : Value} {S S' : DS}
theorem row_lt' {B : Nat} {e : TypeId} {size n : Nat} {v : Value} {xs : List Value} (h : w.ownsRow B e size v n xs) {b : Nat} (hb : b ∈ v.ownBlock.toList) : b < w.heap.size := (h.lt b (by simpa using hb)).2
theorem DiskIs.lt (h : DiskIs w g gn gs cn cs vd vk S) {b : Nat} (hb : b ∈ g :: gn :: gs :: (vd.ownBlock.toList ++ vk.ownBlock.toList)) : b < w.heap.size := by
  simp only [List.mem_cons, List.mem_append] at hb
  rcases hb with rfl | rfl | rfl | hb | hb
  · exact h.blk.lt
  · exact row_lt' h.now (by simp [Value.ownBlock])
  · exact row_lt' h.safe (by simp [Value.ownBlock])
  · exact row_lt' h.dirty hb
  · exact row_lt' h.keep hb
theorem DiskAt.lt (h : DiskAt w O g S) {b : Nat} (hb : b ∈ O) : b < w.heap.size := by
  obtain ⟨gn, gs, cn, cs, vd, vk, rfl, h⟩ := h
  exact h.lt hb
theorem DiskIs.kept (h : DiskIs w g gn gs cn cs vd vk S) (hk : ∀ b ∈ g :: gn :: gs :: (vd.ownBlock.toList ++ vk.ownBlock.toList), w'.heap[b]? = w.heap[b]?) : DiskIs w' g gn gs cn cs vd vk S where
  blk := (hk g (by simp)).trans h.blk
  now := row_kept h.now fun k e => hk k (by cases e; simp)
  safe := row_kept h.safe fun k e => hk k (by cases e; simp)
  dirty := row_kept h.dirty fun k e => hk k (by simp [e])
  keep := row_kept h.keep fun k e => hk k (by simp [e])
  apart := h.apart
theorem DiskAt.kept (h : DiskAt w O g S) (hk : ∀ b ∈ O, w'.heap[b]? = w.heap[b]?) : DiskAt w' O g S := by
  obtain ⟨gn, gs, cn, cs, vd, vk, rfl, h⟩ := h
  exact ⟨gn, gs, cn, cs, vd, vk, rfl, h.kept hk⟩
/-- Another disk stays. -/
theorem DiskAt.far (h : DiskAt w O g S) (hk : Keep O2 w w') (ha : ∀ b ∈ O, b ∉ O2) : DiskAt w' O g S := h.kept fun b hb => hk.block b (h.lt hb) (ha b hb)
theorem DiskAt.below (h : DiskAt w O g S) (hb : Below w.heap.size w w') : DiskAt w' O g S := h.kept fun b hb' => hb.block b (h.lt hb')
theorem DiskAt.mem (h : DiskAt w O g S) : g ∈ O := by
  obtain ⟨gn, gs, cn, cs, vd, vk, rfl, h⟩ := h
  simp
theorem Turns.refl (h : DiskAt w O g S) : Turns O g S w w := ⟨O, h, fun _ hb => .inl hb, Keep.refl _ _⟩
theorem Turns.of_below (h : DiskAt w O g S) (hb : Below w.heap.size w w') : Turns O g S w w' := ⟨O, h.below hb, fun _ hb => .inl hb, Keep.of_below hb⟩
theorem Turns.at (h : Turns O g S w w') : ∃ O', DiskAt w' O' g S := ⟨_, h.choose_spec.1⟩
theorem Turns.trans {w0 : World} (h : Turns O g S w0 w) (k : ∀ O', DiskAt w O' g S → Turns O' g S' w w') : Turns O g S' w0 w' := by
  obtain ⟨O1, h1, h2, h3⟩ := h
  obtain ⟨O3, k1, k2, k3⟩ := k O1 h1
  refine ⟨O3, k1, fun b hb => ?_, h3.trans k3 h2⟩
  rcases k2 b hb with hb | hb
  · exact h2 b hb
  · have := h3.size
    omega
theorem Turns.below_in (h : Turns O g S w w') (hb : Below w'.heap.size w' w'') : Turns O g S w w'' := h.trans fun _ h' => Turns.of_below h' hb
theorem Turns.after {w0 : World} (hb : Below w0.heap.size w0 w) (h : Turns O g S w w') : Turns O g S w0 w' := by
  obtain ⟨O1, h1, h2, h3⟩ := h
  refine ⟨O1, h1, fun b hb1 => ?_, (Keep.of_below hb).trans h3 (fun _ hb => .inl hb)⟩
  rcases h2 b hb1 with h2 | h2
  · exact .inl h2
  · have := hb.size
    exact .inr (by omega)
end
end Go.Proofs.YtdibeieiogagoaaGreatDoor

namespace Go.Proofs.YtdibeieiogagoaaGreatDoor
open Go.RowKit

/-- A list of texts as a slice: nil, empty or not. -/
def Txts (w : World) (B : Nat) (A : Option Addr) (xs : List ByteArray) : Prop :=
  0 < xs.length → ∃ b off, A = some ⟨b, off, none⟩ ∧ b < B ∧ ∀ (j : Nat) (x : ByteArray), xs[j]? = some x → w.cell? ⟨b, off + j, none⟩ = some (.string x)
theorem Txts.nil (w : World) (B : Nat) (A : Option Addr) : Txts w B A [] := fun h => absurd h (by simp)
theorem Txts.more {w : World} {B B' : Nat} {A : Option Addr} {xs : List ByteArray} (h : Txts w B A xs) (hB : B ≤ B') : Txts w B' A xs := fun hp => by
  obtain ⟨b, off, e, hb, hc⟩ := h hp
  exact ⟨b, off, e, by omega, hc⟩
theorem Txts.keep {w w' : World} {B : Nat} {A : Option Addr} {xs : List ByteArray} (h : Txts w B A xs) (hk : ∀ p : Addr, p.block < B → w'.cell? p = w.cell? p) : Txts w' B A xs := by
  intro hp
  obtain ⟨b, off, e, hb, hc⟩ := h hp
  exact ⟨b, off, e, hb, fun j x hx => (hk _ hb).trans (hc j x hx)⟩
theorem Txts.below {w w' : World} {B : Nat} {A : Option Addr} {xs : List ByteArray} (h : Txts w B A xs) (hb : Below B w w') : Txts w' B A xs := h.keep fun _ hp => hb.cell hp

def cats (l : List ByteArray) : List UInt8 := l.flatMap fun t => t.data.toList
theorem cats_snoc {l : List ByteArray} {j : Nat} {x : ByteArray} (h : l[j]? = some x) : cats (l.take (j + 1)) = cats (l.take j) ++ x.data.toList := by
  rw [List.take_add_one, h]; simp [cats]
theorem cats_len {l : List ByteArray} {j : Nat} {x : ByteArray} (h : l[j]? = some x) : (cats (l.take j)).length + x.size ≤ (cats l).length := by
  have e : cats l = cats (l.take (j + 1)) ++ cats (l.drop (j + 1)) := by unfold cats; rw [← List.flatMap_append, List.take_append_drop]
  rw [e, cats_snoc h, List.length_append, List.length_append, Lib.size_eq]
  omega
theorem txts_new (w : World) (xs : List ByteArray) : Txts (w.alloc (.cells (xs.map Value.string).toArray 9)) (w.alloc (.cells (xs.map Value.string).toArray 9)).heap.size (some ⟨w.heap.size, 0, none⟩) xs := by
  intro _
  refine ⟨w.heap.size, 0, rfl, by simp, fun j x hx => ?_⟩
  have := (Blk.new w 9 (xs.map Value.string).toArray).cell (0 + j)
  rw [this]
  simp [hx]
theorem txts_at (w : World) (cs : Array Value) (xs : List ByteArray) (g : Nat) (hg : w.heap.size = g) (hcs : cs = (xs.map Value.string).toArray) :
    Txts (w.alloc (.cells cs 9)) (w.alloc (.cells cs 9)).heap.size (some ⟨g, 0, none⟩) xs := by
  subst hg; subst hcs
  exact txts_new w xs
def TextsFit (xs : List ByteArray) : Prop := xs.length ≤ 1000 ∧ ∀ x ∈ xs, x.size ≤ 100000
theorem cats_bound (xs : List ByteArray) (B : Nat) (h : ∀ x ∈ xs, x.size ≤ B) : (cats xs).length ≤ xs.length * B := by
  induction xs with
  | nil => simp [cats]
  | cons x l ih =>
    have h1 := ih (fun y hy => h y (by simp [hy]))
    have h2 := h x (by simp)
    have e : cats (x :: l) = x.data.toList ++ cats l := by simp [cats]
    rw [e, List.length_append, List.length_cons, Nat.add_mul, ← Lib.size_eq]
    omega
theorem cats_one (x : ByteArray) : cats [x] = x.data.toList := by simp [cats]
end Go.Proofs.YtdibeieiogagoaaGreatDoor
