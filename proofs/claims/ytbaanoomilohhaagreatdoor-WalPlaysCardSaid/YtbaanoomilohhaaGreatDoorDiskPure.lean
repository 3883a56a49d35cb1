/-
  A disk of sectors as plain data: what it holds, and what each call does to it. No statement is proved here.
-/
import Derived.WalkKit
import Derived.Lib.Hide
namespace Go.Proofs.YtbaanoomilohhaaGreatDoor
open Go.RowKit

/-- Is the number odd? -/
def oddI (k : Int) : Bool := decide (k % 2 = 1)
/-- A disk: the sectors now, those that are safe, what was written since, in order. -/
structure DS where
  now : List ByteArray
  safe : List ByteArray
  dirty : List (Nat × ByteArray)
  on : Bool
  writes : Nat
  armed : Bool
  left : Nat
  keep : List Int

def setAll (s : List ByteArray) (l : List (Nat × ByteArray)) : List ByteArray := l.foldl (fun s w => s.set w.1 w.2) s
/-- What a crash keeps, from number i on. -/
def keptL (keep : List Int) : Nat → List (Nat × ByteArray) → List ByteArray → List ByteArray
  | _, [], s => s
  | i, w :: r, s => keptL keep (i + 1) r (if oddI (keep.getD i 0) then s.set w.1 w.2 else s)
def lostN (keep : List Int) : Nat → List (Nat × ByteArray) → Nat
  | _, [] => 0
  | i, _ :: r => (if oddI (keep.getD i 0) then 0 else 1) + lostN keep (i + 1) r

/-- What is written back where something was dirty. -/
def backL (safe : List ByteArray) (l : List (Nat × ByteArray)) (s : List ByteArray) : List ByteArray := l.foldl (fun s w => s.set w.1 (safe.getD w.1 .empty)) s

structure DS.Ok (S : DS) : Prop where
  now : S.now = setAll S.safe S.dirty
  fits : ∀ w ∈ S.dirty, w.1 < S.safe.length

theorem setAll_length (s : List ByteArray) (l : List (Nat × ByteArray)) : (setAll s l).length = s.length := by
  induction l generalizing s with
  | nil => rfl
  | cons w r ih => show (setAll (s.set w.1 w.2) r).length = _; rw [ih]; simp
theorem setAll_snoc (s : List ByteArray) (l : List (Nat × ByteArray)) (w : Nat × ByteArray) : setAll s (l ++ [w]) = (setAll s l).set w.1 w.2 := by
  unfold setAll; rw [List.foldl_append]; rfl
theorem keptL_length (keep : List Int) (i : Nat) (l : List (Nat × ByteArray)) (s : List ByteArray) : (keptL keep i l s).length = s.length := by
  induction l generalizing i s with
  | nil => rfl
  | cons w r ih => show (keptL keep (i + 1) r _).length = _; rw [ih]; split <;> simp
theorem keptL_snoc (keep : List Int) (i : Nat) (l : List (Nat × ByteArray)) (w : Nat × ByteArray) (s : List ByteArray) :
    keptL keep i (l ++ [w]) s = if oddI (keep.getD (i + l.length) 0) then (keptL keep i l s).set w.1 w.2 else keptL keep i l s := by
  induction l generalizing i s with
  | nil => rfl
  | cons v r ih =>
    show keptL keep (i + 1) (r ++ [w]) _ = _
    rw [ih, List.length_cons, show i + 1 + r.length = i + (r.length + 1) by omega]
    rfl
theorem lostN_snoc (keep : List Int) (i : Nat) (l : List (Nat × ByteArray)) (w : Nat × ByteArray) : lostN keep i (l ++ [w]) = lostN keep i l + (if oddI (keep.getD (i + l.length) 0) then 0 else 1) := by
  induction l generalizing i with
  | nil => simp [lostN]
  | cons v r ih =>
    show _ + lostN keep (i + 1) (r ++ [w]) = _
    rw [ih, List.length_cons, show i + 1 + r.length = i + (r.length + 1) by omega]
    simp only [lostN]
    omega
theorem lostN_le (keep : List Int) (i : Nat) (l : List (Nat × ByteArray)) : lostN keep i l ≤ l.length := by
  induction l generalizing i with
  | nil => exact Nat.le_refl _
  | cons v r ih => have := ih (i + 1); simp only [lostN, List.length_cons]; split <;> omega
theorem backL_length (safe : List ByteArray) (l : List (Nat × ByteArray)) (s : List ByteArray) : (backL safe l s).length = s.length := by
  induction l generalizing s with
  | nil => rfl
  | cons w r ih => show (backL safe r (s.set w.1 (safe.getD w.1 .empty))).length = _; rw [ih]; simp
theorem backL_snoc (safe : List ByteArray) (l : List (Nat × ByteArray)) (w : Nat × ByteArray) (s : List ByteArray) : backL safe (l ++ [w]) s = (backL safe l s).set w.1 (safe.getD w.1 .empty) := by
  unfold backL; rw [List.foldl_append]; rfl
/-- Where nothing was written it is as it was. -/
theorem setAll_far (l : List (Nat × ByteArray)) (s : List ByteArray) {k : Nat} (h : ∀ w ∈ l, w.1 ≠ k) : (setAll s l)[k]? = s[k]? := by
  induction l generalizing s with
  | nil => rfl
  | cons w r ih =>
    show (setAll (s.set w.1 w.2) r)[k]? = _
    rw [ih _ (fun v hv => h v (by simp [hv])), List.getElem?_set_ne (h w (by simp))]
theorem keptL_far (keep : List Int) (l : List (Nat × ByteArray)) (i : Nat) (s : List ByteArray) {k : Nat} (h : ∀ w ∈ l, w.1 ≠ k) : (keptL keep i l s)[k]? = s[k]? := by
  induction l generalizing i s with
  | nil => rfl
  | cons w r ih =>
    show (keptL keep (i + 1) r (if oddI (keep.getD i 0) then s.set w.1 w.2 else s))[k]? = _
    rw [ih _ _ (fun v hv => h v (by simp [hv]))]
    split
    · rw [List.getElem?_set_ne (h w (by simp))]
    · rfl
theorem backL_far (safe : List ByteArray) (l : List (Nat × ByteArray)) (s : List ByteArray) {k : Nat} (h : ∀ w ∈ l, w.1 ≠ k) : (backL safe l s)[k]? = s[k]? := by
  induction l generalizing s with
  | nil => rfl
  | cons w r ih =>
    show (backL safe r (s.set w.1 (safe.getD w.1 .empty)))[k]? = _
    rw [ih _ (fun v hv => h v (by simp [hv])), List.getElem?_set_ne (h w (by simp))]
theorem backL_here (safe : List ByteArray) (l : List (Nat × ByteArray)) (s : List ByteArray) {k : Nat} (hk : k < s.length) (hs : k < safe.length) (h : ∃ w ∈ l, w.1 = k) : (backL safe l s)[k]? = safe[k]? := by
  induction l generalizing s with
  | nil => obtain ⟨w, hw, _⟩ := h; cases hw
  | cons w r ih =>
    show (backL safe r (s.set w.1 (safe.getD w.1 .empty)))[k]? = _
    by_cases hr : ∃ v ∈ r, v.1 = k
    · exact ih _ (by simpa using hk) hr
    · obtain ⟨v, hv, e⟩ := h
      have hw : w.1 = k := by
        rcases List.mem_cons.1 hv with rfl | hv
        · exact e
        · exact absurd ⟨v, hv, e⟩ hr
      rw [backL_far _ _ _ (fun v hv e => hr ⟨v, hv, e⟩), hw, List.getElem?_set_self hk, List.getD_eq_getElem?_getD, List.getElem?_eq_getElem hs]
      rfl
/-- Behind a crash the sectors are those that are safe. -/
theorem back_all {S : DS} (h : S.Ok) (keep : List Int) : backL (keptL keep 0 S.dirty S.safe) S.dirty S.now = keptL keep 0 S.dirty S.safe := by
  have hl : S.now.length = S.safe.length := by rw [h.now, setAll_length]
  apply List.ext_getElem?
  intro k
  by_cases hk : k < S.safe.length
  · by_cases hd : ∃ w ∈ S.dirty, w.1 = k
    · exact backL_here _ _ _ (by omega) (by rw [keptL_length]; exact hk) hd
    · have hf : ∀ w ∈ S.dirty, w.1 ≠ k := fun w hw e => hd ⟨w, hw, e⟩
      rw [backL_far _ _ _ hf, keptL_far _ _ _ _ hf, h.now, setAll_far _ _ hf]
  · rw [List.getElem?_eq_none (by rw [backL_length]; omega), List.getElem?_eq_none (by rw [keptL_length]; omega)]

/-- P702. -/
def DS.crash (S : DS) (keep : List Int) : DS :=
  if S.on then { now := keptL keep 0 S.dirty S.safe, safe := keptL keep 0 S.dirty S.safe, dirty := [], on := false, writes := S.writes, armed := false, left := 0, keep := [] } else S
def DS.lost (S : DS) (keep : List Int) : Nat := if S.on then lostN keep 0 S.dirty else 0
/-- Does the power go now, and what is then? -/
def DS.fails (S : DS) : Bool := S.armed && decide (S.left = 0)
def DS.failed (S : DS) : DS := if S.armed then (if 0 < S.left then { S with left := S.left - 1 } else S.crash S.keep) else S
/-- One sector written, nothing asked of the power. -/
def DS.put (S : DS) (at_ : Nat) (data : ByteArray) : DS := { S with now := S.now.set at_ data, dirty := S.dirty ++ [(at_, data)], writes := S.writes + 1 }
def DS.write1 (S : DS) (at_ : Int) (data : ByteArray) : DS :=
  if 0 ≤ at_ ∧ at_ < (S.now.length : Int) ∧ data.size = 256 then (S.put at_.toNat data).failed else S
def DS.err1 (S : DS) (at_ : Int) (data : ByteArray) : Int :=
  if 0 ≤ at_ ∧ at_ < (S.now.length : Int) then (if data.size = 256 then (if (S.put at_.toNat data).fails then 14 else 0) else 1) else 15
def DS.writeL (S : DS) : List (Int × ByteArray) → DS
  | [] => S
  | w :: r => if S.err1 w.1 w.2 = 0 then (S.write1 w.1 w.2).writeL r else S.write1 w.1 w.2
def DS.errL (S : DS) : List (Int × ByteArray) → Int
  | [] => 0
  | w :: r => if S.err1 w.1 w.2 = 0 then (S.write1 w.1 w.2).errL r else S.err1 w.1 w.2
def DS.write (S : DS) (l : List (Int × ByteArray)) : DS := if S.on then S.writeL l else S
def DS.errW (S : DS) (l : List (Int × ByteArray)) : Int := if S.on then S.errL l else 14
def DS.flush (S : DS) : DS := if S.on then (if S.fails then S.failed else { S.failed with safe := S.now, dirty := [] }) else S
def DS.errF (S : DS) : Int := if S.on then (if S.fails then 14 else 0) else 14
def DS.restore (S : DS) : DS := { S with on := true }
def DS.arm (S : DS) (n : Int) (keep : List Int) : DS := if n < 0 then { S with armed := false, left := 0, keep := [] } else { S with armed := true, left := n.toNat, keep := keep }
def DS.read (S : DS) (at_ : Int) : ByteArray := if S.on = true ∧ 0 ≤ at_ ∧ at_ < (S.now.length : Int) then S.now.getD at_.toNat .empty else .empty
def DS.errR (S : DS) (at_ : Int) : Int := if S.on then (if 0 ≤ at_ ∧ at_ < (S.now.length : Int) then 0 else 15) else 14
def DS.fresh (n : Nat) (z : ByteArray) : DS := { now := List.replicate n z, safe := List.replicate n z, dirty := [], on := true, writes := 0, armed := false, left := 0, keep := [] }

theorem DS.Ok.fresh (n : Nat) (z : ByteArray) : (DS.fresh n z).Ok := ⟨rfl, by intro w hw; cases hw⟩
theorem DS.Ok.len {S : DS} (h : S.Ok) : S.now.length = S.safe.length := by rw [h.now, setAll_length]
theorem DS.Ok.put {S : DS} (h : S.Ok) {at_ : Nat} (ha : at_ < S.now.length) (data : ByteArray) : (S.put at_ data).Ok := by
  refine ⟨?_, ?_⟩
  · show S.now.set at_ data = setAll S.safe (S.dirty ++ [(at_, data)])
    rw [setAll_snoc, ← h.now]
  · intro w hw
    rcases List.mem_append.1 hw with hw | hw
    · exact h.fits w hw
    · simp at hw
      subst hw
      have := h.len
      show at_ < S.safe.length
      omega
theorem DS.Ok.crash {S : DS} (h : S.Ok) (keep : List Int) : (S.crash keep).Ok := by
  unfold DS.crash
  split
  · exact ⟨rfl, by intro w hw; cases hw⟩
  · exact h
theorem DS.Ok.failed {S : DS} (h : S.Ok) : S.failed.Ok := by
  unfold DS.failed
  split
  · split
    · exact ⟨h.now, h.fits⟩
    · exact h.crash _
  · exact h
theorem DS.Ok.write1 {S : DS} (h : S.Ok) (at_ : Int) (data : ByteArray) : (S.write1 at_ data).Ok := by
  unfold DS.write1
  split
  · rename_i hc
    exact (h.put (by omega) _).failed
  · exact h
theorem DS.Ok.writeL {S : DS} (h : S.Ok) (l : List (Int × ByteArray)) : (S.writeL l).Ok := by
  induction l generalizing S with
  | nil => exact h
  | cons w r ih =>
    unfold DS.writeL
    split
    · exact ih (h.write1 _ _)
    · exact h.write1 _ _
theorem DS.Ok.write {S : DS} (h : S.Ok) (l : List (Int × ByteArray)) : (S.write l).Ok := by
  unfold DS.write
  split
  · exact h.writeL l
  · exact h
theorem DS.Ok.flush {S : DS} (h : S.Ok) : S.flush.Ok := by
  unfold DS.flush
  split
  · split
    · exact h.failed
    · rename_i hf
      refine ⟨?_, by intro w hw; cases hw⟩
      show S.failed.now = S.now
      unfold DS.failed
      unfold DS.fails at hf
      split
      · split
        · rfl
        · simp_all
      · rfl
  · exact h
theorem DS.Ok.restore {S : DS} (h : S.Ok) : S.restore.Ok := ⟨h.now, h.fits⟩
theorem DS.Ok.arm {S : DS} (h : S.Ok) (n : Int) (keep : List Int) : (S.arm n keep).Ok := by
  unfold DS.arm
  split <;> exact ⟨h.now, h.fits⟩
theorem DS.crash_len {S : DS} (h : S.Ok) (keep : List Int) : (S.crash keep).now.length = S.now.length := by
  unfold DS.crash
  split
  · show (keptL keep 0 S.dirty S.safe).length = _
    rw [keptL_length, h.len]
  · rfl
theorem DS.failed_len {S : DS} (h : S.Ok) : S.failed.now.length = S.now.length := by
  unfold DS.failed
  split
  · split
    · rfl
    · exact DS.crash_len h _
  · rfl
theorem DS.write1_len {S : DS} (h : S.Ok) (at_ : Int) (data : ByteArray) : (S.write1 at_ data).now.length = S.now.length := by
  unfold DS.write1
  split
  · rename_i hc
    rw [DS.failed_len (h.put (by omega) _)]
    show (S.now.set _ _).length = _
    simp
  · rfl
theorem DS.failed_writes (S : DS) : S.failed.writes = S.writes := by
  unfold DS.failed DS.crash
  split <;> (try split) <;> (try split) <;> rfl
theorem DS.write1_writes (S : DS) (at_ : Int) (data : ByteArray) : (S.write1 at_ data).writes ≤ S.writes + 1 := by
  unfold DS.write1
  split
  · rw [DS.failed_writes]; exact Nat.le_refl _
  · omega
theorem DS.failed_dirty (S : DS) : S.failed.dirty.length ≤ S.dirty.length := by
  unfold DS.failed DS.crash
  split <;> (try split) <;> (try split) <;> simp
theorem DS.write1_dirty (S : DS) (at_ : Int) (data : ByteArray) : (S.write1 at_ data).dirty.length ≤ S.dirty.length + 1 := by
  unfold DS.write1
  split
  · refine Nat.le_trans (DS.failed_dirty _) ?_
    show (S.dirty ++ [_]).length ≤ _
    simp
  · omega
/-- A write that is done leaves the power on. -/
theorem DS.write1_on {S : DS} {at_ : Int} {data : ByteArray} (h : S.err1 at_ data = 0) (ho : S.on = true) : (S.write1 at_ data).on = true := by
  unfold DS.err1 at h
  split at h
  · rename_i h1
    split at h
    · rename_i h2
      split at h
      · cases h
      · rename_i h3
        unfold DS.write1
        rw [if_pos ⟨h1.1, h1.2, h2⟩]
        unfold DS.fails at h3
        unfold DS.failed
        split
        · split
          · exact ho
          · simp_all
        · exact ho
    · cases h
  · cases h
end Go.Proofs.YtbaanoomilohhaaGreatDoor
