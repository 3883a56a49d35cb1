/-
  A disk's Crash: what it keeps, what it loses. No statement is proved here.
-/
import Derived.WalkKit
import Derived.Lib.Hide
import Derived.Test.YtingkbeifohihaaGreatDoorProg
import Derived.Test.YtingkbeifohihaaGreatDoorMarkSmall
import Derived.Test.YtingkbeifohihaaGreatDoorOneMix
import Derived.Deep.AppendLies
import Derived.Test.YtingkbeifohihaaGreatDoorBytes
import Derived.BigQuiet
import Derived.Deep.QuietTactic
import Derived.Outline
import Derived.StillTailTactics
namespace Go.Proofs.YtingkbeifohihaaGreatDoor
open Go.RowKit
def sF (k : Int) : Bool := decide (k % 2 = 1)
structure DS where
 now : List ByteArray
 safe : List ByteArray
 dirty : List (Nat × ByteArray)
 on : Bool
 writes : Nat
 armed : Bool
 left : Nat
 keep : List Int
def eU (s : List ByteArray) (l : List (Nat × ByteArray)) : List ByteArray := l.foldl (fun s w => s.set w.1 w.2) s
def dQ (keep : List Int) : Nat -> List (Nat × ByteArray) -> List ByteArray -> List ByteArray
 | _, [], s => s
 | i, w :: r, s => dQ keep (i + 1) r (if sF (keep.getD i 0) then s.set w.1 w.2 else s)
def kS (keep : List Int) : Nat -> List (Nat × ByteArray) -> Nat
 | _, [] => 0
 | i, _ :: r => (if sF (keep.getD i 0) then 0 else 1) + kS keep (i + 1) r
def jR (safe : List ByteArray) (l : List (Nat × ByteArray)) (s : List ByteArray) : List ByteArray := l.foldl (fun s w => s.set w.1 (safe.getD w.1 .empty)) s
structure DS.Ok (S : DS) : Prop where
 now : S.now = eU S.safe S.dirty
 fits : ∀ w ∈ S.dirty, w.1 < S.safe.length
theorem iX (s : List ByteArray) (l : List (Nat × ByteArray)) : (eU s l).length = s.length := by
 induction l generalizing s with
 | nil => rfl
 | cons w r ih => show (eU (s.set w.1 w.2) r).length = _; rw [ih]; simp
theorem uU (s : List ByteArray) (l : List (Nat × ByteArray)) (w : Nat × ByteArray) : eU s (l ++ [w]) = (eU s l).set w.1 w.2 := by
 unfold eU; rw [List.foldl_append]; rfl
theorem fO (keep : List Int) (i : Nat) (l : List (Nat × ByteArray)) (s : List ByteArray) : (dQ keep i l s).length = s.length := by
 induction l generalizing i s with
 | nil => rfl
 | cons w r ih => show (dQ keep (i + 1) r _).length = _; rw [ih]; split <;> simp
theorem Iz (keep : List Int) (i : Nat) (l : List (Nat × ByteArray)) (w : Nat × ByteArray) (s : List ByteArray) :
  dQ keep i (l ++ [w]) s = if sF (keep.getD (i + l.length) 0) then (dQ keep i l s).set w.1 w.2 else dQ keep i l s := by
 induction l generalizing i s with
 | nil => rfl
 | cons v r ih =>
   show dQ keep (i + 1) (r ++ [w]) _ = _
   rw [ih, List.length_cons, show i + 1 + r.length = i + (r.length + 1) by omega]
   rfl
theorem Ja (keep : List Int) (i : Nat) (l : List (Nat × ByteArray)) (w : Nat × ByteArray) : kS keep i (l ++ [w]) = kS keep i l + (if sF (keep.getD (i + l.length) 0) then 0 else 1) := by
 induction l generalizing i with
 | nil => simp [kS]
 | cons v r ih =>
   show _ + kS keep (i + 1) (r ++ [w]) = _
   rw [ih, List.length_cons, show i + 1 + r.length = i + (r.length + 1) by omega]
   simp only [kS]
   omega
theorem Tk (keep : List Int) (i : Nat) (l : List (Nat × ByteArray)) : kS keep i l <= l.length := by
 induction l generalizing i with
 | nil => exact Nat.le_refl _
 | cons v r ih => have := ih (i + 1); simp only [kS, List.length_cons]; split <;> omega
theorem sG (safe : List ByteArray) (l : List (Nat × ByteArray)) (s : List ByteArray) : (jR safe l s).length = s.length := by
 induction l generalizing s with
 | nil => rfl
 | cons w r ih => show (jR safe r (s.set w.1 (safe.getD w.1 .empty))).length = _; rw [ih]; simp
theorem Jb (safe : List ByteArray) (l : List (Nat × ByteArray)) (w : Nat × ByteArray) (s : List ByteArray) : jR safe (l ++ [w]) s = (jR safe l s).set w.1 (safe.getD w.1 .empty) := by
 unfold jR; rw [List.foldl_append]; rfl
theorem Jc (l : List (Nat × ByteArray)) (s : List ByteArray) {k : Nat} (h : ∀ w ∈ l, w.1 ≠ k) : (eU s l)[k]? = s[k]? := by
 induction l generalizing s with
 | nil => rfl
 | cons w r ih =>
   show (eU (s.set w.1 w.2) r)[k]? = _
   rw [ih _ (fun v hv => h v (by simp [hv])), List.getElem?_set_ne (h w (by simp))]
theorem Og (keep : List Int) (l : List (Nat × ByteArray)) (i : Nat) (s : List ByteArray) {k : Nat} (h : ∀ w ∈ l, w.1 ≠ k) : (dQ keep i l s)[k]? = s[k]? := by
 induction l generalizing i s with
 | nil => rfl
 | cons w r ih =>
   show (dQ keep (i + 1) r (if sF (keep.getD i 0) then s.set w.1 w.2 else s))[k]? = _
   rw [ih _ _ (fun v hv => h v (by simp [hv]))]
   split
   ·rw [List.getElem?_set_ne (h w (by simp))]
   ·rfl
theorem Bn (safe : List ByteArray) (l : List (Nat × ByteArray)) (s : List ByteArray) {k : Nat} (h : ∀ w ∈ l, w.1 ≠ k) : (jR safe l s)[k]? = s[k]? := by
 induction l generalizing s with
 | nil => rfl
 | cons w r ih =>
   show (jR safe r (s.set w.1 (safe.getD w.1 .empty)))[k]? = _
   rw [ih _ (fun v hv => h v (by simp [hv])), List.getElem?_set_ne (h w (by simp))]
theorem Jd (safe : List ByteArray) (l : List (Nat × ByteArray)) (s : List ByteArray) {k : Nat} (hk : k < s.length) (hs : k < safe.length) (h : ∃ w ∈ l, w.1 = k) : (jR safe l s)[k]? = safe[k]? := by
 induction l generalizing s with
 | nil => obtain ⟨w, hw, _⟩ := h; cases hw
 | cons w r ih =>
   show (jR safe r (s.set w.1 (safe.getD w.1 .empty)))[k]? = _
   by_cases hr : ∃ v ∈ r, v.1 = k
   ·exact ih _ (by simpa using hk) hr
   ·obtain ⟨v, hv, e⟩ := h
    have hw : w.1 = k := by
     rcases List.mem_cons.1 hv with rfl | hv
     ·exact e
     ·exact absurd ⟨v, hv, e⟩ hr
    rw [Bn _ _ _ (fun v hv e => hr ⟨v, hv, e⟩), hw, List.getElem?_set_self hk, List.getD_eq_getElem?_getD, List.getElem?_eq_getElem hs]
    rfl
theorem Tl {S : DS} (h : S.Ok) (keep : List Int) : jR (dQ keep 0 S.dirty S.safe) S.dirty S.now = dQ keep 0 S.dirty S.safe := by
 have hl : S.now.length = S.safe.length := by rw [h.now, iX]
 apply List.ext_getElem?
 intro k
 by_cases hk : k < S.safe.length
 ·by_cases hd : ∃ w ∈ S.dirty, w.1 = k
  ·exact Jd _ _ _ (by omega) (by rw [fO]; exact hk) hd
  ·have hf : ∀ w ∈ S.dirty, w.1 ≠ k := fun w hw e => hd ⟨w, hw, e⟩
   rw [Bn _ _ _ hf, Og _ _ _ _ hf, h.now, Jc _ _ hf]
 ·rw [List.getElem?_eq_none (by rw [sG]; omega), List.getElem?_eq_none (by rw [fO]; omega)]
def DS.crash (S : DS) (keep : List Int) : DS :=
 if S.on then { now := dQ keep 0 S.dirty S.safe, safe := dQ keep 0 S.dirty S.safe, dirty := [], on := false, writes := S.writes, armed := false, left := 0, keep := [] } else S
def DS.lost (S : DS) (keep : List Int) : Nat := if S.on then kS keep 0 S.dirty else 0
def DS.fails (S : DS) : Bool := S.armed && decide (S.left = 0)
def DS.failed (S : DS) : DS := if S.armed then (if 0 < S.left then { S with left := S.left - 1 } else S.crash S.keep) else S
def DS.put (S : DS) (at_ : Nat) (data : ByteArray) : DS := { S with now := S.now.set at_ data, dirty := S.dirty ++ [(at_, data)], writes := S.writes + 1 }
def DS.write1 (S : DS) (at_ : Int) (data : ByteArray) : DS :=
 if 0 <= at_ /\ at_ < (S.now.length : Int) /\ data.size = 256 then (S.put at_.toNat data).failed else S
def DS.err1 (S : DS) (at_ : Int) (data : ByteArray) : Int :=
 if 0 <= at_ /\ at_ < (S.now.length : Int) then (if data.size = 256 then (if (S.put at_.toNat data).fails then 14 else 0) else 1) else 15
def DS.writeL (S : DS) : List (Int × ByteArray) -> DS
 | [] => S
 | w :: r => if S.err1 w.1 w.2 = 0 then (S.write1 w.1 w.2).writeL r else S.write1 w.1 w.2
def DS.errL (S : DS) : List (Int × ByteArray) -> Int
 | [] => 0
 | w :: r => if S.err1 w.1 w.2 = 0 then (S.write1 w.1 w.2).errL r else S.err1 w.1 w.2
def DS.write (S : DS) (l : List (Int × ByteArray)) : DS := if S.on then S.writeL l else S
def DS.errW (S : DS) (l : List (Int × ByteArray)) : Int := if S.on then S.errL l else 14
def DS.flush (S : DS) : DS := if S.on then (if S.fails then S.failed else { S.failed with safe := S.now, dirty := [] }) else S
def DS.errF (S : DS) : Int := if S.on then (if S.fails then 14 else 0) else 14
def DS.read (S : DS) (at_ : Int) : ByteArray := if S.on = true /\ 0 <= at_ /\ at_ < (S.now.length : Int) then S.now.getD at_.toNat .empty else .empty
def DS.errR (S : DS) (at_ : Int) : Int := if S.on then (if 0 <= at_ /\ at_ < (S.now.length : Int) then 0 else 15) else 14
def DS.fresh (n : Nat) (z : ByteArray) : DS := { now := List.replicate n z, safe := List.replicate n z, dirty := [], on := true, writes := 0, armed := false, left := 0, keep := [] }
theorem DS.Ok.fresh (n : Nat) (z : ByteArray) : (DS.fresh n z).Ok := ⟨rfl, by intro w hw; cases hw⟩
theorem DS.Ok.len {S : DS} (h : S.Ok) : S.now.length = S.safe.length := by rw [h.now, iX]
theorem DS.Ok.put {S : DS} (h : S.Ok) {at_ : Nat} (ha : at_ < S.now.length) (data : ByteArray) : (S.put at_ data).Ok := by
 refine ⟨?_, ?_⟩
 ·show S.now.set at_ data = eU S.safe (S.dirty ++ [(at_, data)])
  rw [uU, <- h.now]
 ·intro w hw
  rcases List.mem_append.1 hw with hw | hw
  ·exact h.fits w hw
  ·simp at hw
   subst hw
   have := h.len
   show at_ < S.safe.length
   omega
theorem DS.Ok.crash {S : DS} (h : S.Ok) (keep : List Int) : (S.crash keep).Ok := by
 unfold DS.crash
 split
 ·exact ⟨rfl, by intro w hw; cases hw⟩
 ·exact h
theorem DS.Ok.failed {S : DS} (h : S.Ok) : S.failed.Ok := by
 unfold DS.failed
 split
 ·split
  ·exact ⟨h.now, h.fits⟩
  ·exact h.crash _
 ·exact h
theorem DS.Ok.write1 {S : DS} (h : S.Ok) (at_ : Int) (data : ByteArray) : (S.write1 at_ data).Ok := by
 unfold DS.write1
 split
 ·rename_i hc
  exact (h.put (by omega) _).failed
 ·exact h
theorem DS.Ok.writeL {S : DS} (h : S.Ok) (l : List (Int × ByteArray)) : (S.writeL l).Ok := by
 induction l generalizing S with
 | nil => exact h
 | cons w r ih =>
   unfold DS.writeL
   split
   ·exact ih (h.write1 _ _)
   ·exact h.write1 _ _
theorem DS.Ok.write {S : DS} (h : S.Ok) (l : List (Int × ByteArray)) : (S.write l).Ok := by
 unfold DS.write
 split
 ·exact h.writeL l
 ·exact h
theorem DS.Ok.flush {S : DS} (h : S.Ok) : S.flush.Ok := by
 unfold DS.flush
 split
 ·split
  ·exact h.failed
  ·rename_i hf
   refine ⟨?_, by intro w hw; cases hw⟩
   show S.failed.now = S.now
   unfold DS.failed
   unfold DS.fails at hf
   split
   ·split
    ·rfl
    ·simp_all
   ·rfl
 ·exact h
theorem DS.crash_len {S : DS} (h : S.Ok) (keep : List Int) : (S.crash keep).now.length = S.now.length := by
 unfold DS.crash
 split
 ·show (dQ keep 0 S.dirty S.safe).length = _
  rw [fO, h.len]
 ·rfl
theorem DS.failed_len {S : DS} (h : S.Ok) : S.failed.now.length = S.now.length := by
 unfold DS.failed
 split
 ·split
  ·rfl
  ·exact DS.crash_len h _
 ·rfl
theorem DS.write1_len {S : DS} (h : S.Ok) (at_ : Int) (data : ByteArray) : (S.write1 at_ data).now.length = S.now.length := by
 unfold DS.write1
 split
 ·rename_i hc
  rw [DS.failed_len (h.put (by omega) _)]
  show (S.now.set _ _).length = _
  simp
 ·rfl
theorem DS.failed_writes (S : DS) : S.failed.writes = S.writes := by
 unfold DS.failed DS.crash
 split <;> (try split) <;> (try split) <;> rfl
theorem DS.write1_writes (S : DS) (at_ : Int) (data : ByteArray) : (S.write1 at_ data).writes <= S.writes + 1 := by
 unfold DS.write1
 split
 ·rw [DS.failed_writes]; exact Nat.le_refl _
 ·omega
theorem DS.failed_dirty (S : DS) : S.failed.dirty.length <= S.dirty.length := by
 unfold DS.failed DS.crash
 split <;> (try split) <;> (try split) <;> simp
theorem DS.write1_dirty (S : DS) (at_ : Int) (data : ByteArray) : (S.write1 at_ data).dirty.length <= S.dirty.length + 1 := by
 unfold DS.write1
 split
 ·refine Nat.le_trans (DS.failed_dirty _) ?_
  show (S.dirty ++ [_]).length <= _
  simp
 ·omega
theorem DS.write1_on {S : DS} {at_ : Int} {data : ByteArray} (h : S.err1 at_ data = 0) (ho : S.on = true) : (S.write1 at_ data).on = true := by
 unfold DS.err1 at h
 split at h
 ·rename_i h1
  split at h
  ·rename_i h2
   split at h
   ·cases h
   ·rename_i h3
    unfold DS.write1
    rw [if_pos ⟨h1.1, h1.2, h2⟩]
    unfold DS.fails at h3
    unfold DS.failed
    split
    ·split
     ·exact ho
     ·simp_all
    ·exact ho
  ·cases h
 ·cases h
structure aR (O : List Nat) (w w' : World) : Prop where
 os : w'.os = w.os
 tape : w'.tape = w.tape
 output : w'.output = w.output
 size : w.heap.size <= w'.heap.size
 block : ∀ k, k < w.heap.size -> k ∉ O -> w'.heap[k]? = w.heap[k]?
section
variable {w w' w'' : World} {O O' : List Nat} {B : Nat}
theorem aR.refl (O : List Nat) (w : World) : aR O w w := ⟨rfl, rfl, rfl, Nat.le_refl _, fun _ _ _ => rfl⟩
theorem aR.trans (h : aR O w w') (k : aR O' w' w'') (hO : ∀ b ∈ O', b ∈ O \/ w.heap.size <= b) : aR O w w'' :=
 ⟨k.os.trans h.os, k.tape.trans h.tape, k.output.trans h.output, Nat.le_trans h.size k.size, fun i hi hn => (k.block i (Nat.lt_of_lt_of_le hi h.size) (fun hm => by
  rcases hO i hm with h1 | h1
  ·exact hn h1
  ·omega)).trans (h.block i hi hn)⟩
theorem aR.trans' (h : aR O w w') (k : aR O w' w'') : aR O w w'' := h.trans k fun _ hb => .inl hb
theorem aR.drew (h : aR O w w') : aR O w w'.drew := ⟨h.os, h.tape, h.output, h.size, h.block⟩
theorem aR.drewN (h : aR O w w') (n : Nat) : aR O w (w'.drewN n) := ⟨h.os, h.tape, h.output, h.size, h.block⟩
theorem aR.alloc (h : aR O w w') (o : Obj) : aR O w (w'.alloc o) :=
 h.trans (O' := []) ⟨rfl, rfl, rfl, by simp, fun k hk _ => Below.heap_alloc _ _ _ hk⟩ (by simp)
theorem aR.put (h : aR O w w') {g : Nat} (hg : g ∈ O \/ w.heap.size <= g) (i : Nat) (u : Value) : aR O w (w'.setCell ⟨g, i, none⟩ u) :=
 h.trans (O' := [g]) ⟨rfl, rfl, rfl, by simp [World.setCell], fun k _ hn => Below.heap_setCell _ _ _ _ (fun e => hn (by simpa using e))⟩ (by simpa using hg)
theorem aR.below_in (h : aR O w w') (k : Below w'.heap.size w' w'') : aR O w w'' :=
 h.trans (O' := []) ⟨k.os, k.tape, k.output, k.size, fun i hi _ => k.block i hi⟩ (by simp)
theorem aR.of_below (k : Below w.heap.size w w') : aR O w w' := (aR.refl O w).below_in k
theorem aR.by_in (h : aR O w w') {row : Option Nat} (k : w'.grownBy w'' row) (hr : ∀ g, row = some g -> g ∈ O \/ w.heap.size <= g) : aR O w w'' :=
 h.trans (O' := row.toList) ⟨k.os, k.tape, k.output, k.size, fun i hi hn => k.block i hi (fun e => hn (by rw [<- e]; simp))⟩ (by intro b hb; exact hr b (by simpa using hb))
theorem aR.below (h : aR O w w') (hO : ∀ b ∈ O, B <= b) (hB : B <= w.heap.size) : Below B w w' :=
 ⟨h.os, h.tape, h.output, h.size, fun i hi => h.block i (by omega) (fun hm => by have := hO i hm; omega)⟩
theorem aR.mono (h : aR O w w') (hO : ∀ b ∈ O, b ∈ O' \/ w.heap.size <= b) : aR O' w w' :=
 ⟨h.os, h.tape, h.output, h.size, fun i hi hn => h.block i hi (fun hm => by
  rcases hO i hm with h1 | h1
  ·exact hn h1
  ·omega)⟩
end
section
variable {w w' : World} {base : Nat} {e : TypeId} {size : Nat} {v : Value} {n : Nat} {xs : List Value} {O : List Nat}
theorem fI (h : w.ownsRow base e size v n xs) (hb : ∀ k, v.ownBlock = some k -> w'.heap[k]? = w.heap[k]?) : w'.ownsRow base e size v n xs := by
 refine ⟨h.1, ?_⟩
 rcases h.2 with hn | ⟨g, cap, cur, rfl, hb1, hgg, rest⟩
 ·exact .inl hn
 ·exact .inr ⟨g, cap, cur, rfl, hb1, by rw [hb g rfl]; exact hgg, rest⟩
theorem bR (h : w.ownsRow base e size v n xs) (hk : aR O w w') (ha : ∀ k, v.ownBlock = some k -> k ∉ O) : w'.ownsRow base e size v n xs :=
 fI h fun k hv => hk.block k (h.lt k hv).2 (ha k hv)
theorem iR (h : w.ownsRow base e size v n xs) : ∃ p cap, v = .slice p n cap /\ n <= cap /\ cap <= 9223372036854775807 /\ (p = none -> n = 0) /\ (∀ a, p = some a -> a = ⟨a.block, 0, none⟩) := by
 rcases h.2 with ⟨rfl, rfl⟩ | ⟨g, cap, cur, rfl, _, _, h1, h2, _⟩
 ·exact ⟨none, 0, rfl, by omega, by omega, fun _ => rfl, fun _ h => by cases h⟩
 ·exact ⟨some ⟨g, 0, none⟩, cap, rfl, h1, by simpa [maxLen] using h2, (fun h => by cases h), fun a h => by cases h; rfl⟩
theorem dY {g cap : Nat} (h : w.ownsRow base e size (.slice (some ⟨g, 0, none⟩) n cap) n xs) {i : Nat} {u : Value} (hi : xs[i]? = some u) : w.cell? ⟨g, i, none⟩ = some u := by
 have := h.cells (g := g) rfl i u hi
 rwa [fY, Nat.zero_add] at this
theorem kR {g cap : Nat} (h : w.ownsRow base e size (.slice (some ⟨g, 0, none⟩) n cap) n xs) (i : Nat) : w.frozen? ⟨g, i, none⟩ = false := by
 rcases h.2 with ⟨h, _⟩ | ⟨g', cap', cur, h, _, hg, _⟩
 ·cases h
 ·injection h with h1 _ _
  injection h1 with h1
  injection h1 with h1 _ _
  subst h1
  exact aG.frozen (show aG w g e cur from hg) i
theorem wH {g cap : Nat} (h : w.ownsRow base e 1 (.slice (some ⟨g, 0, none⟩) n cap) n xs) {i : Nat} (u : Value) : (w.setCell ⟨g, i, none⟩ u).ownsRow base e 1 (.slice (some ⟨g, 0, none⟩) n cap) n (xs.set i u) := by
 refine ⟨by rw [List.length_set]; exact h.1, ?_⟩
 rcases h.2 with ⟨h, _⟩ | ⟨g', cap', cur, h, hb, hg, h1, h2, h3, h4⟩
 ·cases h
 ·injection h with e1 _ e3
  injection e1 with e1
  injection e1 with e1 _ _
  subst e1 e3
  refine .inr ⟨g, cap, cur.setIfInBounds i u, rfl, hb, aG.put (show aG w g e cur from hg) i u, h1, h2, by rw [Array.size_setIfInBounds]; exact h3, ?_⟩
  rw [Array.toList_setIfInBounds, <- h4, List.take_set]
theorem fE {p : Addr} (h : w.ownsRow base e size v n xs) (hp : v.ownBlock ≠ some p.block) (u : Value) : (w.setCell p u).ownsRow base e size v n xs :=
 fI h fun k hk => Below.heap_setCell _ _ _ _ (fun e => hp (by rw [hk, e]))
end
def mS (l : List (Nat × ByteArray)) : List Value := l.flatMap fun x => [.int .i64 ((x.1 : Nat) : Int), .string x.2]
theorem Iy (l : List (Nat × ByteArray)) (x : Nat × ByteArray) : mS (l ++ [x]) = mS l ++ [.int .i64 ((x.1 : Nat) : Int), .string x.2] := by simp [mS]
theorem Oe {l : List (Nat × ByteArray)} {j : Nat} {x : Nat × ByteArray} (h : l[j]? = some x) : (mS l)[2 * j]? = some (.int .i64 ((x.1 : Nat) : Int)) /\ (mS l)[2 * j + 1]? = some (.string x.2) := by
 induction l generalizing j with
 | nil => cases h
 | cons y r ih =>
   have e : mS (y :: r) = .int .i64 ((y.1 : Nat) : Int) :: .string y.2 :: mS r := rfl
   rw [e]
   cases j with
   | zero =>
     rw [List.getElem?_cons_zero] at h
     injection h with h
     subst h
     exact ⟨rfl, rfl⟩
   | succ j =>
     rw [List.getElem?_cons_succ] at h
     have := ih h
     rw [show 2 * (j + 1) = (2 * j + 1) + 1 by omega, show (2 * j + 1) + 1 + 1 = (2 * j + 1 + 1) + 1 by omega]
     simp only [List.getElem?_cons_succ]
     exact this
structure cW (w : World) (g gn gs cn cs : Nat) (vd vk : Value) (S : DS) : Prop where
 blk : aG w g 107 #[.slice (some ⟨gn, 0, none⟩) S.now.length cn, .slice (some ⟨gs, 0, none⟩) S.safe.length cs, vd, .bool S.on, .int .i64 (S.writes : Int), .bool S.armed, .int .i64 (S.left : Int), vk]
 now : w.ownsRow 0 9 1 (.slice (some ⟨gn, 0, none⟩) S.now.length cn) S.now.length (S.now.map Value.string)
 safe : w.ownsRow 0 9 1 (.slice (some ⟨gs, 0, none⟩) S.safe.length cs) S.safe.length (S.safe.map Value.string)
 dirty : w.ownsRow 0 74 2 vd S.dirty.length (mS S.dirty)
 keep : w.ownsRow 0 3 1 vk S.keep.length (S.keep.map (Value.int .i64))
 apart : (g :: gn :: gs :: (vd.ownBlock.toList ++ vk.ownBlock.toList)).Nodup
def bE (w : World) (O : List Nat) (g : Nat) (S : DS) : Prop :=
 ∃ gn gs cn cs vd vk, O = g :: gn :: gs :: (vd.ownBlock.toList ++ vk.ownBlock.toList) /\ cW w g gn gs cn cs vd vk S
def dC (O : List Nat) (g : Nat) (S : DS) (w w' : World) : Prop := ∃ O', bE w' O' g S /\ (∀ b ∈ O', b ∈ O \/ w.heap.size <= b) /\ aR O w w'
section
variable {w w' w'' : World} {O O2 : List Nat} {g gn gs cn cs : Nat} {vd vk : Value} {S S' : DS}
theorem nM {B : Nat} {e : TypeId} {size n : Nat} {v : Value} {xs : List Value} (h : w.ownsRow B e size v n xs) {b : Nat} (hb : b ∈ v.ownBlock.toList) : b < w.heap.size := (h.lt b (by simpa using hb)).2
theorem cW.lt (h : cW w g gn gs cn cs vd vk S) {b : Nat} (hb : b ∈ g :: gn :: gs :: (vd.ownBlock.toList ++ vk.ownBlock.toList)) : b < w.heap.size := by
 simp only [List.mem_cons, List.mem_append] at hb
 rcases hb with rfl | rfl | rfl | hb | hb
 ·exact h.blk.lt
 ·exact nM h.now (by simp [Value.ownBlock])
 ·exact nM h.safe (by simp [Value.ownBlock])
 ·exact nM h.dirty hb
 ·exact nM h.keep hb
theorem bE.lt (h : bE w O g S) {b : Nat} (hb : b ∈ O) : b < w.heap.size := by
 obtain ⟨gn, gs, cn, cs, vd, vk, rfl, h⟩ := h
 exact h.lt hb
theorem cW.kept (h : cW w g gn gs cn cs vd vk S) (hk : ∀ b ∈ g :: gn :: gs :: (vd.ownBlock.toList ++ vk.ownBlock.toList), w'.heap[b]? = w.heap[b]?) : cW w' g gn gs cn cs vd vk S where
 blk := (hk g (by simp)).trans h.blk
 now := fI h.now fun k e => hk k (by cases e; simp)
 safe := fI h.safe fun k e => hk k (by cases e; simp)
 dirty := fI h.dirty fun k e => hk k (by simp [e])
 keep := fI h.keep fun k e => hk k (by simp [e])
 apart := h.apart
theorem bE.kept (h : bE w O g S) (hk : ∀ b ∈ O, w'.heap[b]? = w.heap[b]?) : bE w' O g S := by
 obtain ⟨gn, gs, cn, cs, vd, vk, rfl, h⟩ := h
 exact ⟨gn, gs, cn, cs, vd, vk, rfl, h.kept hk⟩
theorem bE.far (h : bE w O g S) (hk : aR O2 w w') (ha : ∀ b ∈ O, b ∉ O2) : bE w' O g S := h.kept fun b hb => hk.block b (h.lt hb) (ha b hb)
theorem bE.below (h : bE w O g S) (hb : Below w.heap.size w w') : bE w' O g S := h.kept fun b hb' => hb.block b (h.lt hb')
theorem dC.refl (h : bE w O g S) : dC O g S w w := ⟨O, h, fun _ hb => .inl hb, aR.refl _ _⟩
theorem dC.of_below (h : bE w O g S) (hb : Below w.heap.size w w') : dC O g S w w' := ⟨O, h.below hb, fun _ hb => .inl hb, aR.of_below hb⟩
theorem dC.after {w0 : World} (hb : Below w0.heap.size w0 w) (h : dC O g S w w') : dC O g S w0 w' := by
 obtain ⟨O1, h1, h2, h3⟩ := h
 refine ⟨O1, h1, fun b hb1 => ?_, (aR.of_below hb).trans h3 (fun _ hb => .inl hb)⟩
 rcases h2 b hb1 with h2 | h2
 ·exact .inl h2
 ·have := hb.size
  exact .inr (by omega)
end
set_option maxHeartbeats 1000000
theorem pR {O : List Nat} {g : Nat} {S : DS} {w : World} (h : bE w O g S) :
  Calls Tryz.prog 139 #[.pointer (some ⟨g, 0, none⟩)] w fun e w' => e = .returned (.bool S.on) /\ w = w' := by
 obtain ⟨gn, gs, cn, cs, vd, vk, _, h⟩ := h
 have c3 := h.blk.cell 3
 simp at c3
 clear h
 go_enter Tryz.func139, Tryz.ntmps139
 go_wp2_with fail
 go_ret
 exact ⟨rfl, rfl⟩
theorem Od {O : List Nat} {g : Nat} {S : DS} {w : World} (h : bE w O g S) :
  Calls Tryz.prog 96 #[.pointer (some ⟨g, 0, none⟩)] w fun e w' => e = .returned (.int .i64 (S.now.length : Int)) /\ w = w' := by
 obtain ⟨gn, gs, cn, cs, vd, vk, _, h⟩ := h
 have c0 := h.blk.cell 0
 simp at c0
 clear h
 go_enter Tryz.func96, Tryz.ntmps96
 go_wp2_with fail
 go_ret
 exact ⟨rfl, rfl⟩
theorem oR {O : List Nat} {g : Nat} {S : DS} {w : World} (at_ : Int) (h : bE w O g S) :
  Calls Tryz.prog 174 #[.pointer (some ⟨g, 0, none⟩), .int .i64 at_] w fun e w' => e = .returned (.bool (decide (0 <= at_ /\ at_ < (S.now.length : Int)))) /\ w = w' := by
 obtain ⟨gn, gs, cn, cs, vd, vk, _, h⟩ := h
 have c0 := h.blk.cell 0
 simp at c0
 clear h
 obtain ⟨n, hn⟩ : ∃ n, n = S.now.length := ⟨_, rfl⟩
 rw [<- hn] at c0 ⊢
 clear hn
 by_cases h0 : 0 <= at_
 ·have e : decide (0 <= at_ /\ at_ < (n : Int)) = decide (at_ < (n : Int)) := by simp [h0]
  rw [e]
  clear e
  go_enter Tryz.func174, Tryz.ntmps174
  go_wp2_with fail
  go_ret
  exact ⟨rfl, rfl⟩
 ·have e : decide (0 <= at_ /\ at_ < (n : Int)) = false := by simp; omega
  rw [e]
  clear e
  go_enter Tryz.func174, Tryz.ntmps174
  go_wp2_with fail
  go_ret
  exact ⟨rfl, rfl⟩
theorem Fu {O : List Nat} {g : Nat} {S : DS} {w : World} (h : bE w O g S) :
  Calls Tryz.prog 201 #[.pointer (some ⟨g, 0, none⟩)] w fun e w' => e = .returned (.tuple #[]) /\ dC O g { S with armed := false, left := 0, keep := [] } w w' := by
 obtain ⟨gn, gs, cn, cs, vd, vk, rfl, h⟩ := h
 have H := Lib.hid h
 have c5 := h.blk.cell 5
 have c6 := h.blk.cell 6
 have c7 := h.blk.cell 7
 have f5 := h.blk.frozen 5
 have f6 := h.blk.frozen 6
 have f7 := h.blk.frozen 7
 have hl := h.blk.lt
 simp at c5 c6 c7
 clear h
 go_enter Tryz.func201, Tryz.ntmps201
 go_wp2
 go_end0
 refine ⟨rfl, g :: gn :: gs :: (vd.ownBlock.toList ++ []), ⟨gn, gs, cn, cs, vd, .slice none 0 0, rfl, ?_⟩, ?_, ?_⟩
 ·have h := H.out
  have ha := h.apart
  simp only [List.nodup_cons, List.mem_cons, List.mem_append, not_or] at ha
  have far : ∀ {v : Value} {e : TypeId} {size n : Nat} {xs : List Value}, w.ownsRow 0 e size v n xs -> v.ownBlock ≠ some g -> (((w.setCell ⟨g, 5, none⟩ (.bool false)).setCell ⟨g, 6, none⟩ (.int .i64 0)).setCell ⟨g, 7, none⟩ (.slice none 0 0)).ownsRow 0 e size v n xs :=
   fun hr hn => fE (fE (fE hr hn _) hn _) hn _
  refine ⟨((h.blk.put 5 _).put 6 _).put 7 _, far h.now ?_, far h.safe ?_, far h.dirty ?_, World.ownsRow_nil _ _ _ _, ?_⟩
  ·intro e; cases e; exact ha.1.1 rfl
  ·intro e; cases e; exact ha.1.2.1 rfl
  ·intro e; exact ha.1.2.2.1 (by simp [e])
  ·have := h.apart
   refine List.Nodup.sublist ?_ this
   refine List.Sublist.cons_cons _ (List.Sublist.cons_cons _ (List.Sublist.cons_cons _ ?_))
   simp [Value.ownBlock]
 ·intro b hb
  left
  simp only [List.append_nil, List.mem_cons, List.mem_append] at hb ⊢
  rcases hb with hb | hb | hb | hb
  ·exact .inl hb
  ·exact .inr (.inl hb)
  ·exact .inr (.inr (.inl hb))
  ·exact .inr (.inr (.inr (.inl hb)))
 ·exact (((aR.refl _ _).put (.inl (by simp)) _ _).put (.inl (by simp)) _ _).put (.inl (by simp)) _ _
theorem cW.put_plain {w : World} {g gn gs cn cs : Nat} {vd vk : Value} {S : DS} (h : cW w g gn gs cn cs vd vk S) (on armed : Bool) (writes left : Nat) (w' : World)
  (hb : aG w' g 107 #[.slice (some ⟨gn, 0, none⟩) S.now.length cn, .slice (some ⟨gs, 0, none⟩) S.safe.length cs, vd, .bool on, .int .i64 (writes : Int), .bool armed, .int .i64 (left : Int), vk])
  (hk : aR [g] w w') : cW w' g gn gs cn cs vd vk { S with on := on, writes := writes, armed := armed, left := left } := by
 have ha := h.apart
 simp only [List.nodup_cons, List.mem_cons, List.mem_append, not_or] at ha
 refine ⟨hb, bR h.now hk ?_, bR h.safe hk ?_, bR h.dirty hk ?_, bR h.keep hk ?_, h.apart⟩
 ·intro k e hm; cases e; exact ha.1.1 (List.mem_singleton.1 hm).symm
 ·intro k e hm; cases e; exact ha.1.2.1 (List.mem_singleton.1 hm).symm
 ·intro k e hm; exact ha.1.2.2.1 (by rw [e, <- List.mem_singleton.1 hm]; simp)
 ·intro k e hm; exact ha.1.2.2.2 (by rw [e, <- List.mem_singleton.1 hm]; simp)
theorem tN {O : List Nat} {g : Nat} {S : DS} {w : World} (at_ : Int) (h : bE w O g S) (hz : ∀ x ∈ S.now, x.size <= 100000) :
  Calls Tryz.prog 135 #[.pointer (some ⟨g, 0, none⟩), .int .i64 at_] w fun e w' => e = .returned (.tuple #[.string (S.read at_), .int .i64 (S.errR at_)]) /\ Below w.heap.size w w' := by
 have HD := Lib.hid h
 by_cases ho : S.on = true
 ·by_cases hr : 0 <= at_ /\ at_ < (S.now.length : Int)
  ·obtain ⟨i, rfl⟩ : ∃ i : Nat, at_ = (i : Int) := ⟨at_.toNat, by omega⟩
   have hi : i < S.now.length := by omega
   obtain ⟨x, hx⟩ : ∃ x, x = S.now[i] := ⟨_, rfl⟩
   have hxi : S.now[i]? = some x := by rw [hx]; exact List.getElem?_eq_getElem hi
   have HX : Hid (x.size <= 100000) := Lib.hid (hz x (by rw [hx]; exact List.getElem_mem hi))
   have R1 : S.read i = x := by unfold DS.read; rw [if_pos ⟨ho, hr⟩, Int.toNat_natCast, List.getD_eq_getElem?_getD, hxi]; rfl
   have R2 : S.errR i = 0 := by unfold DS.errR; rw [if_pos ho, if_pos hr]
   rw [R1, R2]
   obtain ⟨gn, gs, cn, cs, vd, vk, _, h⟩ := h
   have c0 := h.blk.cell 0
   simp at c0
   have cx := dY h.now (i := i) (u := .string x) (by rw [List.getElem?_map, hxi]; rfl)
   have HO := Lib.hid (fun w' (e : w = w') => e ▸ pR (w := w) HD.out)
   have HH := Lib.hid (oR (w := w) (i : Int) HD.out)
   rw [ho] at HO
   rw [show decide (0 <= (i : Int) /\ (i : Int) < (S.now.length : Int)) = true by simpa using hi] at HH
   obtain ⟨n, hn⟩ : ∃ n, n = S.now.length := ⟨_, rfl⟩
   rw [<- hn] at c0 hi
   clear R1 R2 hr h hxi hx hz hn ho HD
   go_enter Tryz.func135, Tryz.ntmps135
   go_wp2_with (first
    | (go_at_call 139; refine (HO.out _ rfl).mono ?_; rintro e w1 ⟨rfl, rfl⟩)
    | (go_at_call 174; refine HH.out.mono ?_; rintro e w1 ⟨rfl, rfl⟩)
    | (go_at_call 97; refine (iK x _ (by have := HX.out; omega)).mono ?_; rintro e w1 ⟨rfl, hb1⟩))
   go_ret2
   exact ⟨rfl, hb1⟩
  ·have R1 : S.read at_ = .empty := by unfold DS.read; rw [if_neg (fun h => hr h.2)]
   have R2 : S.errR at_ = 15 := by unfold DS.errR; rw [if_pos ho, if_neg hr]
   rw [R1, R2]
   have HO := Lib.hid (pR (w := w) HD.out)
   have HH := Lib.hid (oR (w := w) at_ HD.out)
   rw [ho] at HO
   rw [show decide (0 <= at_ /\ at_ < (S.now.length : Int)) = false by simpa using hr] at HH
   clear R1 R2 hr h hz ho HD
   go_enter Tryz.func135, Tryz.ntmps135
   go_wp2_with (first
    | (go_at_call 139; refine HO.out.mono ?_; rintro e w1 ⟨rfl, rfl⟩)
    | (go_at_call 174; refine HH.out.mono ?_; rintro e w1 ⟨rfl, rfl⟩))
   go_ret2
   exact ⟨rfl, Below.refl _ _⟩
 ·have R1 : S.read at_ = .empty := by unfold DS.read; rw [if_neg (fun h => ho h.1)]
  have R2 : S.errR at_ = 14 := by unfold DS.errR; rw [if_neg ho]
  rw [R1, R2]
  have HO := Lib.hid (pR (w := w) HD.out)
  rw [show S.on = false by simpa using ho] at HO
  clear R1 R2 h hz ho HD
  go_enter Tryz.func135, Tryz.ntmps135
  go_wp2_with (go_at_call 139; refine HO.out.mono ?_; rintro e w1 ⟨rfl, rfl⟩)
  go_ret2
  exact ⟨rfl, Below.refl _ _⟩
set_option maxRecDepth 100000
set_option maxHeartbeats 4000000
def Yp (w : World) (A : Option Addr) (l : List Int) : Prop :=
 0 < l.length -> ∃ b off, A = some ⟨b, off, none⟩ /\ b < w.heap.size /\ ∀ (j : Nat) (x : Int), l[j]? = some x -> w.cell? ⟨b, off + j, none⟩ = some (.int .i64 x)
def Lt (A : Option Addr) (l : List Int) (O : List Nat) : Prop := 0 < l.length -> ∀ a, A = some a -> a.block ∉ O
theorem Ti {x : Int} (h : sF x = true) : ¬ x.tmod 2 = 0 := by
 have h1 : x % 2 = 1 := by simpa [sF] using h
 intro h
 have := Int.emod_emod_of_dvd x (show (2 : Int) ∣ 2 from ⟨1, rfl⟩)
 have h2 : (2 : Int) ∣ x := Int.dvd_of_tmod_eq_zero h
 omega
theorem Nz {x : Int} (h : sF x = false) : x.tmod 2 = 0 := by
 have h1 : ¬ x % 2 = 1 := by simpa [sF] using h
 have h2 : (2 : Int) ∣ x := by omega
 exact Int.tmod_eq_zero_of_dvd h2
theorem pQ {α : Type} {l : List α} {j : Nat} {x : α} (h : l[j]? = some x) : l.take (j + 1) = l.take j ++ [x] := by rw [List.take_add_one, h]; rfl
theorem Oa {l : List Int} {D : List (Nat × ByteArray)} {j : Nat} {x : Nat × ByteArray} (h : D[j]? = some x) (hj : j < D.length) (s : List ByteArray) :
  dQ l 0 (D.take (j + 1)) s = if sF (l.getD j 0) then (dQ l 0 (D.take j) s).set x.1 x.2 else dQ l 0 (D.take j) s := by
 rw [pQ h, Iz]
 have e : 0 + (D.take j).length = j := by rw [List.length_take]; omega
 rw [e]
theorem Ob {l : List Int} {D : List (Nat × ByteArray)} {j : Nat} {x : Nat × ByteArray} (h : D[j]? = some x) (hj : j < D.length) :
  kS l 0 (D.take (j + 1)) = kS l 0 (D.take j) + if sF (l.getD j 0) then 0 else 1 := by
 rw [pQ h, Ja]
 have e : 0 + (D.take j).length = j := by rw [List.length_take]; omega
 rw [e]
theorem cW.elem {w wr : World} {g gn gs cn cs : Nat} {p : Option Addr} {n cap : Nat} {vk : Value} {S : DS} (h : cW w g gn gs cn cs (.slice p n cap) vk S) (hk : aR [gs, gn] w wr) {j : Nat} {x : Nat × ByteArray} (hx : S.dirty[j]? = some x) :
  ∃ gd, p = some ⟨gd, 0, none⟩ /\ gd < wr.heap.size /\ wr.cell? ⟨gd, j * 2, none⟩ = some (.int .i64 ((x.1 : Nat) : Int)) /\ wr.cell? ⟨gd, j * 2 + 1, none⟩ = some (.string x.2) := by
 have hj : j < S.dirty.length := by
  rcases Nat.lt_or_ge j S.dirty.length with h | h
  ·exact h
  ·rw [List.getElem?_eq_none h] at hx; cases hx
 have hd := h.dirty
 obtain ⟨gd, cap', e, _, hlt⟩ := hd.form (by omega)
 injection e with e1 e2 e3
 subst e1 e2 e3
 have ha := h.apart
 simp only [List.nodup_cons, List.mem_cons, List.mem_append, not_or] at ha
 have hne : gd ∉ [gs, gn] := by
  intro hm
  rcases List.mem_cons.1 hm with rfl | hm
  ·exact ha.2.2.1.1 (by simp [Value.ownBlock])
  ·obtain rfl := List.mem_singleton.1 hm
   exact ha.2.1.2.1 (by simp [Value.ownBlock])
 have hb : wr.heap[gd]? = w.heap[gd]? := hk.block gd hlt hne
 obtain ⟨h1, h2⟩ := Oe hx
 refine ⟨gd, rfl, Nat.lt_of_lt_of_le hlt hk.size, ?_, ?_⟩
 ·rw [Nat.mul_comm j 2, World.cell?_of_block (a := ⟨gd, 2 * j, none⟩) hb]
  exact dY hd h1
 ·rw [Nat.mul_comm j 2, World.cell?_of_block (a := ⟨gd, 2 * j + 1, none⟩) hb]
  exact dY hd h2
theorem Tj {w w2 : World} {g gn gs cn cs : Nat} {vd vk : Value} {S : DS} (h : cW w g gn gs cn cs vd vk S) (hok : S.Ok) (l : List Int) (hk : aR [gs, gn] w w2)
  (hs : w2.ownsRow 0 9 1 (.slice (some ⟨gs, 0, none⟩) S.safe.length cs) S.safe.length ((dQ l 0 S.dirty S.safe).map Value.string))
  (hn : w2.ownsRow 0 9 1 (.slice (some ⟨gn, 0, none⟩) S.now.length cn) S.now.length ((dQ l 0 S.dirty S.safe).map Value.string)) :
  cW ((w2.setCell ⟨g, 3, none⟩ (.bool false)).setCell ⟨g, 2, none⟩ (.slice none 0 0)) g gn gs cn cs (.slice none 0 0) vk { S with now := dQ l 0 S.dirty S.safe, safe := dQ l 0 S.dirty S.safe, dirty := [], on := false } := by
 have ha := h.apart
 simp only [List.nodup_cons, List.mem_cons, List.mem_append, not_or] at ha
 have l1 : (dQ l 0 S.dirty S.safe).length = S.safe.length := fO _ _ _ _
 have l2 : (dQ l 0 S.dirty S.safe).length = S.now.length := by rw [l1, hok.len]
 have hb : aG w2 g 107 #[.slice (some ⟨gn, 0, none⟩) S.now.length cn, .slice (some ⟨gs, 0, none⟩) S.safe.length cs, vd, .bool S.on, .int .i64 (S.writes : Int), .bool S.armed, .int .i64 (S.left : Int), vk] :=
  (hk.block g h.blk.lt (by simp; exact ⟨ha.1.2.1, ha.1.1⟩)).trans h.blk
 have far : ∀ {v : Value} {e : TypeId} {size n : Nat} {xs : List Value}, w2.ownsRow 0 e size v n xs -> v.ownBlock ≠ some g -> ((w2.setCell ⟨g, 3, none⟩ (.bool false)).setCell ⟨g, 2, none⟩ (.slice none 0 0)).ownsRow 0 e size v n xs :=
  fun hr hn => fE (fE hr hn _) hn _
 refine ⟨?_, ?_, ?_, World.ownsRow_nil _ _ _ _, far (bR h.keep hk ?_) ?_, ?_⟩
 ·have := (hb.put 3 (.bool false)).put 2 (.slice none 0 0)
  rw [<- l2] at this
  rw [<- l1] at this
  exact this
 ·rw [<- l2] at hn
  exact far hn (by intro e; cases e; exact ha.1.1 rfl)
 ·rw [<- l1] at hs
  exact far hs (by intro e; cases e; exact ha.1.2.1 rfl)
 ·intro k e hm
  rcases List.mem_cons.1 hm with rfl | hm
  ·exact ha.2.2.1.2 (by simp [e])
  ·obtain rfl := List.mem_singleton.1 hm
   exact ha.2.1.2.2 (by simp [e])
 ·intro e; exact ha.1.2.2.2 (by simp [e])
 ·refine List.Nodup.sublist ?_ h.apart
  refine List.Sublist.cons_cons _ (List.Sublist.cons_cons _ (List.Sublist.cons_cons _ ?_))
  simp [Value.ownBlock]
theorem Oc {w : World} {g gn gs cn cs : Nat} {vd vk : Value} {S : DS} (A : Option Addr) (m c : Nat) (l : List Int) (h : cW w g gn gs cn cs vd vk S) (hok : S.Ok) (hon : S.on = true) (hl : l.length = m) (hA : Yp w A l) (hfar : Lt A l [g, gn, gs]) :
  Calls Tryz.prog 178 #[.pointer (some ⟨g, 0, none⟩), .slice A m c] w fun e w' => e = .returned (.int .i64 (S.lost l : Int)) /\ dC (g :: gn :: gs :: (vd.ownBlock.toList ++ vk.ownBlock.toList)) g (S.crash l) w w' := by
 obtain ⟨p, cap, rfl, hcap, hcap2, _, _⟩ := iR h.dirty
 have R1 : S.lost l = kS l 0 S.dirty := by unfold DS.lost; rw [if_pos hon]
 have R2 : S.crash l = { now := dQ l 0 S.dirty S.safe, safe := dQ l 0 S.dirty S.safe, dirty := [], on := false, writes := S.writes, armed := false, left := 0, keep := [] } := by unfold DS.crash; rw [if_pos hon]
 rw [R1, R2]
 clear R1 R2
 have HON : Hid (Calls Tryz.prog 139 #[.pointer (some ⟨g, 0, none⟩)] w fun e w' => e = .returned (.bool true) /\ w = w') := Lib.hid (by
  have := pR (w := w) (O := _) (g := g) (S := S) ⟨gn, gs, cn, cs, _, vk, rfl, h⟩
  rwa [hon] at this)
 have H := Lib.hid h
 have HOK := Lib.hid hok
 have HA := Lib.hid hA
 have HF := Lib.hid hfar
 have HL := Lib.hid hl
 have ha := h.apart
 simp only [List.nodup_cons, List.mem_cons, List.mem_append, not_or] at ha
 have HN : Hid (g ≠ gn /\ g ≠ gs /\ gn ≠ gs) := Lib.hid ⟨ha.1.1, ha.1.2.1, ha.2.1.1⟩
 have c2 := h.blk.cell 2
 simp at c2
 obtain ⟨n, hn⟩ : ∃ n, n = S.dirty.length := ⟨_, rfl⟩
 obtain ⟨ns, hns⟩ : ∃ ns, ns = S.safe.length := ⟨_, rfl⟩
 obtain ⟨nn, hnn⟩ : ∃ nn, nn = S.now.length := ⟨_, rfl⟩
 have HSN : Hid (nn = ns) := Lib.hid (by rw [hnn, hns, hok.len])
 have hgl := h.blk.lt
 rw [<- hn] at c2 hcap H ⊢
 have HDN := Lib.hid hn
 have HNS := Lib.hid hns
 have HNN := Lib.hid hnn
 have hnI : (n : Int) <= 9223372036854775807 := by omega
 have hs0 := h.safe
 rw [<- hns] at hs0
 have hn0 := h.now
 rw [<- hnn] at hn0
 have HS0 := Lib.hid hs0
 have HN0 := Lib.hid hn0
 clear hs0 hn0 ha h hok hon hl hA hfar hn hns hnn hcap hcap2
 go_enter Tryz.func178, Tryz.ntmps178
 go_wp2_with (go_at_call 139; refine HON.out.mono ?_; rintro e w1 ⟨rfl, rfl⟩)
 go_loopw [5, 18] (fun v i wr => ∃ j : Nat, j <= n /\ i = .int .i64 j /\ v = .int .i64 (kS l 0 (S.dirty.take j) : Int) /\ aR [gs] w wr /\ wr.ownsRow 0 9 1 (.slice (some ⟨gs, 0, none⟩) ns cs) ns ((dQ l 0 (S.dirty.take j) S.safe).map Value.string)) (fun _ i _ => n - (intOf i).toNat)
 case atStart => exact ⟨0, Nat.zero_le _, rfl, rfl, aR.refl _ _, by simpa [dQ] using HS0.out⟩
 case round =>
  obtain ⟨j, hj, rfl, rfl, hk, hrow⟩ := hrel
  have HK := Lib.hid hk
  have HR := Lib.hid hrow
  clear hk hrow
  have HK2 : Hid (aR [gs, gn] w wr) := Lib.hid (HK.out.mono (by simp))
  have hgr : g < wr.heap.size := Nat.lt_of_lt_of_le hgl HK.out.size
  have HB : Hid (aG wr g 107 #[.slice (some ⟨gn, 0, none⟩) nn cn, .slice (some ⟨gs, 0, none⟩) ns cs, .slice p n cap, .bool S.on, .int .i64 (S.writes : Int), .bool S.armed, .int .i64 (S.left : Int), vk]) :=
   Lib.hid ((HK.out.block g hgl (by simp; exact HN.out.2.1)).trans (by rw [HNN.out, HNS.out]; exact H.out.blk))
  by_cases hlt : j < n
  ·have hjd : j < S.dirty.length := by rw [<- HDN.out]; exact hlt
   obtain ⟨x, hx⟩ : ∃ x, x = S.dirty[j] := ⟨_, rfl⟩
   have hxj : S.dirty[j]? = some x := by rw [hx]; exact List.getElem?_eq_getElem hjd
   have hxf : x.1 < ns := by rw [HNS.out]; exact HOK.out.fits x (by rw [hx]; exact List.getElem_mem hjd)
   obtain ⟨gd, rfl, hgd, d0, d1⟩ := H.out.elem HK2.out hxj
   have HE := Lib.hid (Oa (l := l) hxj hjd S.safe)
   have HLN := Lib.hid (Ob (l := l) hxj hjd)
   have HLB := Lib.hid (Tk l 0 (S.dirty.take j))
   have HTK : Hid ((S.dirty.take j).length = j) := Lib.hid (by rw [List.length_take]; omega)
   obtain ⟨xa, xs⟩ := x
   obtain ⟨L, hL⟩ : ∃ L, L = kS l 0 (S.dirty.take j) := ⟨_, rfl⟩
   have hLn : (L : Int) < 9223372036854775807 := by have := HLB.out; rw [HTK.out, <- hL] at this; omega
   rw [<- hL] at HLN ⊢
   have hxaI : (xa : Int) < (ns : Int) := by simpa using hxf
   clear hL hx hxj
   simp only at d0 d1 hxf
   by_cases hm : j < m
   ·have hml : j < l.length := by rw [HL.out]; exact hm
    obtain ⟨b, off, rfl, hbB, hcA⟩ := HA.out (by omega)
    obtain ⟨y, hy⟩ : ∃ y, y = l[j] := ⟨_, rfl⟩
    have hyj : l[j]? = some y := by rw [hy]; exact List.getElem?_eq_getElem hml
    have hyD : l.getD j 0 = y := by rw [List.getD_eq_getElem?_getD, hyj]; rfl
    have hbf := HF.out (by omega) _ rfl
    have a0 : wr.cell? ⟨b, off + j, none⟩ = some (.int .i64 y) := (World.cell?_of_block (a := ⟨b, off + j, none⟩) (HK.out.block b hbB (fun hm => hbf (by simp at hm; simp [hm])))).trans (hcA j y hyj)
    have hbr : b < wr.heap.size := Nat.lt_of_lt_of_le hbB HK.out.size
    rw [hyD] at HE HLN
    clear hy hyj hyD hcA hbf
    by_cases hodd : sF y = true
    ·obtain ⟨t, ht⟩ : ∃ t, y.tmod 2 = t := ⟨_, rfl⟩
     have ht0 : (t != 0) = true := bne_iff_ne.2 (by rw [<- ht]; exact Ti hodd)
     rw [hodd] at HE HLN
     clear hodd
     go_upto_region 7 with fail
     obtain ⟨W, hW⟩ : ∃ W, W = wr.alloc (.cells #[.int .i64 (xa : Int), .string xs] 74) := ⟨_, rfl⟩
     have kW : aR [] wr W := by rw [hW]; exact (aR.refl _ _).alloc _
     have bW : aG W wr.heap.size 74 #[.int .i64 (xa : Int), .string xs] := by rw [hW]; exact aG.new wr _ _
     have a1 : W.cell? ⟨b, off + j, none⟩ = some (.int .i64 y) := (World.cell?_of_block (a := ⟨b, off + j, none⟩) (kW.block b hbr (by simp))).trans a0
     have e0 := bW.cell 0
     have e1 := bW.cell 1
     have g1 := (show aG W g 107 _ from (kW.block g hgr (by simp)).trans HB.out).cell 1
     have q0 := dY (bR HR.out kW (by simp)) (i := xa) (u := .string ((dQ l 0 (S.dirty.take j) S.safe).getD xa .empty)) (by
      rw [List.getElem?_map, List.getD_eq_getElem?_getD, List.getElem?_eq_getElem (by rw [fO, <- HNS.out]; exact hxf)]; rfl)
     have q1 := kR (bR HR.out kW (by simp)) xa
     simp at e0 e1 g1
     obtain ⟨X, hX⟩ : ∃ X, X = (dQ l 0 (S.dirty.take j) S.safe).getD xa .empty := ⟨_, rfl⟩
     rw [<- hX] at q0
     have HKW := Lib.hid kW
     have HWW := Lib.hid hW
     rw [<- hW]
     clear hW kW bW a0 d0 d1 hX
     go_upto_region 8 with fail
     have f1 := q1
     clear ht ht0 a1 q1
     go_still_tail 9, (by kernel_rfl)
     change wpList _ _ _ _ _ W.drew
     go_wp2_with fail
     go_roundw
     case rel =>
      refine ⟨j + 1, by omega, by go_num, by rw [HLN.out]; simp, ?_, ?_⟩
      ·exact ((HK.out.trans HKW.out (by simp)).drew).put (.inl (by simp)) _ _
      ·rw [HE.out, if_pos rfl, List.map_set]
       exact fI (wH (bR HR.out HKW.out (by simp)) (i := xa) (.string xs)) (fun _ _ => rfl)
     case measure => simp [intOf]; omega
    ·have ho : sF y = false := by simpa using hodd
     have ht := Nz ho
     rw [ho] at HE HLN
     clear hodd ho
     go_wp2_with fail
     go_roundw
     case rel => exact ⟨j + 1, by omega, by go_num, by rw [HLN.out]; simp, HK.out.alloc _, by rw [HE.out]; simpa using bR HR.out (aR.alloc (aR.refl [] wr) _) (by simp)⟩
     case measure => simp [intOf]; omega
   ·have hD : sF (l.getD j 0) = false := by
     rw [List.getD_eq_getElem?_getD, List.getElem?_eq_none (by rw [HL.out]; omega)]
     rfl
    rw [hD] at HE HLN
    clear hD
    go_wp2_with fail
    go_roundw
    case rel => exact ⟨j + 1, by omega, by go_num, by rw [HLN.out]; simp, HK.out.alloc _, by rw [HE.out]; simpa using bR HR.out (aR.alloc (aR.refl [] wr) _) (by simp)⟩
    case measure => simp [intOf]; omega
  ·obtain rfl : j = n := by omega
   have hTn : S.dirty.take j = S.dirty := List.take_of_length_le (by rw [<- HDN.out]; exact Nat.le_refl _)
   rw [hTn] at HR ⊢
   clear hTn hlt hj
   obtain ⟨K, hK⟩ : ∃ K, K = dQ l 0 S.dirty S.safe := ⟨_, rfl⟩
   rw [<- hK] at HR
   have HKL : Hid (K.length = ns) := Lib.hid (by rw [hK, fO, HNS.out])
   have HKE := Lib.hid hK
   obtain ⟨L, hL⟩ : ∃ L, L = kS l 0 S.dirty := ⟨_, rfl⟩
   rw [<- hL]
   have HLL := Lib.hid hL
   clear hK hL
   have c2' := HB.out.cell 2
   simp at c2'
   go_wp2_with fail
   go_loopw [52] (fun i w2 => ∃ k : Nat, k <= j /\ i = .int .i64 k /\ aR [gs, gn] w w2 /\ w2.ownsRow 0 9 1 (.slice (some ⟨gs, 0, none⟩) ns cs) ns (K.map Value.string) /\ w2.ownsRow 0 9 1 (.slice (some ⟨gn, 0, none⟩) nn cn) nn ((jR K (S.dirty.take k) S.now).map Value.string)) (fun i _ => j - (intOf i).toNat)
   case atStart => exact ⟨0, Nat.zero_le _, rfl, HK2.out, HR.out, by simpa [jR] using bR HN0.out HK.out (by intro k e; cases e; simpa using HN.out.2.2)⟩
   case round =>
    obtain ⟨k, hk, rfl, hkk, hrs, hrn⟩ := hrel
    clear HB c2'
    have HK3 := Lib.hid hkk
    have HRS := Lib.hid hrs
    have HRN := Lib.hid hrn
    clear hkk hrs hrn
    have hgr2 : g < wr.heap.size := Nat.lt_of_lt_of_le hgl HK3.out.size
    have HB3 : Hid (aG wr g 107 #[.slice (some ⟨gn, 0, none⟩) nn cn, .slice (some ⟨gs, 0, none⟩) ns cs, .slice p j cap, .bool S.on, .int .i64 (S.writes : Int), .bool S.armed, .int .i64 (S.left : Int), vk]) :=
     Lib.hid ((HK3.out.block g hgl (by simp; exact ⟨HN.out.2.1, HN.out.1⟩)).trans (by rw [HNN.out, HNS.out]; exact H.out.blk))
    by_cases hlt : k < j
    ·have hjd : k < S.dirty.length := by rw [<- HDN.out]; exact hlt
     obtain ⟨x, hx⟩ : ∃ x, x = S.dirty[k] := ⟨_, rfl⟩
     have hxj : S.dirty[k]? = some x := by rw [hx]; exact List.getElem?_eq_getElem hjd
     have hxf : x.1 < ns := by rw [HNS.out]; exact HOK.out.fits x (by rw [hx]; exact List.getElem_mem hjd)
     obtain ⟨gd, rfl, hgd, d0, d1⟩ := H.out.elem HK3.out hxj
     have HE : Hid (jR K (S.dirty.take (k + 1)) S.now = (jR K (S.dirty.take k) S.now).set x.1 (K.getD x.1 .empty)) := Lib.hid (by rw [pQ hxj, Jb])
     obtain ⟨xa, xs⟩ := x
     have hxaI : (xa : Int) < (ns : Int) := by simpa using hxf
     have hxaN : (xa : Int) < (nn : Int) := by rw [HSN.out]; exact hxaI
     clear hx hxj
     simp only at d0 d1 hxf HE
     go_upto_region 14 with fail
     obtain ⟨W, hW⟩ : ∃ W, W = wr.alloc (.cells #[.int .i64 (xa : Int), .string xs] 74) := ⟨_, rfl⟩
     have kW : aR [] wr W := by rw [hW]; exact (aR.refl _ _).alloc _
     have bW : aG W wr.heap.size 74 #[.int .i64 (xa : Int), .string xs] := by rw [hW]; exact aG.new wr _ _
     have e0 := bW.cell 0
     have bg := (show aG W g 107 _ from (kW.block g hgr2 (by simp)).trans HB3.out)
     have g0 := bg.cell 0
     have g1 := bg.cell 1
     have q0 := dY (bR HRS.out kW (by simp)) (i := xa) (u := .string (K.getD xa .empty)) (by
      rw [List.getElem?_map, List.getD_eq_getElem?_getD, List.getElem?_eq_getElem (by rw [HKL.out]; exact hxf)]; rfl)
     have q1 := dY (bR HRN.out kW (by simp)) (i := xa) (u := .string ((jR K (S.dirty.take k) S.now).getD xa .empty)) (by
      rw [List.getElem?_map, List.getD_eq_getElem?_getD, List.getElem?_eq_getElem (by rw [sG, <- HNN.out, HSN.out]; exact hxf)]; rfl)
     have q2 := kR (bR HRN.out kW (by simp)) xa
     simp at e0 g0 g1
     obtain ⟨X, hX⟩ : ∃ X, X = (jR K (S.dirty.take k) S.now).getD xa .empty := ⟨_, rfl⟩
     rw [<- hX] at q1
     obtain ⟨Y, hY⟩ : ∃ Y, Y = K.getD xa .empty := ⟨_, rfl⟩
     rw [<- hY] at q0 HE
     have HKW := Lib.hid kW
     rw [<- hW]
     clear hW kW bW d0 d1 hX hY bg
     go_still_tail 15, (by kernel_rfl)
     change wpList _ _ _ _ _ W.drew
     go_wp2_with fail
     go_roundw
     case rel =>
      refine ⟨k + 1, by omega, by go_num, ?_, ?_, ?_⟩
      ·exact ((HK3.out.trans HKW.out (by simp)).drew).put (.inl (by simp)) _ _
      ·exact fE (fI (bR HRS.out HKW.out (by simp)) (fun _ _ => rfl)) (by intro e; cases e; exact HN.out.2.2 rfl) _
      ·rw [HE.out, List.map_set]
       exact fI (wH (bR HRN.out HKW.out (by simp)) (i := xa) (.string Y)) (fun _ _ => rfl)
     case measure => simp [intOf]; omega
    ·obtain rfl : k = j := by omega
     have hTn : S.dirty.take k = S.dirty := List.take_of_length_le (by rw [<- HDN.out]; exact Nat.le_refl _)
     rw [hTn, HKE.out, Tl HOK.out l] at HRN
     rw [HKE.out] at HRS
     rw [HNS.out] at HRS
     rw [HNN.out] at HRN
     have HD := Lib.hid (Tj H.out HOK.out l HK3.out HRS.out HRN.out)
     have c2' := HB3.out.cell 2
     have c3' := HB3.out.cell 3
     have f2' := HB3.out.frozen 2
     have f3' := HB3.out.frozen 3
     simp at c2' c3'
     clear hTn hlt hk HB3
     go_wp2_with (go_at_call 201; refine (Fu (w := (wr.setCell ⟨g, 3, none⟩ (.bool false)).setCell ⟨g, 2, none⟩ (.slice none 0 0)) ⟨gn, gs, cn, cs, _, vk, rfl, HD.out⟩).mono ?_; rintro e w3 ⟨rfl, hT⟩)
     go_ret
     refine ⟨by rw [<- HLL.out]; rfl, ?_⟩
     obtain ⟨O3, h1, h2, h3⟩ := hT
     have hKK : aR (g :: gn :: gs :: ((Value.slice p k cap).ownBlock.toList ++ vk.ownBlock.toList)) w ((wr.setCell ⟨g, 3, none⟩ (.bool false)).setCell ⟨g, 2, none⟩ (.slice none 0 0)) :=
      ((HK3.out.mono (by simp)).put (.inl (by simp)) _ _).put (.inl (by simp)) _ _
     have hsz : w.heap.size <= ((wr.setCell ⟨g, 3, none⟩ (.bool false)).setCell ⟨g, 2, none⟩ (.slice none 0 0)).heap.size := hKK.size
     have hsub : ∀ b ∈ g :: gn :: gs :: ((Value.slice none 0 0).ownBlock.toList ++ vk.ownBlock.toList), b ∈ g :: gn :: gs :: ((Value.slice p k cap).ownBlock.toList ++ vk.ownBlock.toList) := by
      intro b hb
      simp only [List.mem_cons, List.mem_append] at hb ⊢
      rcases hb with hb | hb | hb | hb | hb
      ·exact .inl hb
      ·exact .inr (.inl hb)
      ·exact .inr (.inr (.inl hb))
      ·simp [Value.ownBlock] at hb
      ·exact .inr (.inr (.inr (.inr hb)))
     refine ⟨O3, h1, fun b hb => ?_, hKK.trans h3 (fun b hb => .inl (hsub b hb))⟩
     rcases h2 b hb with h2 | h2
     ·exact .inl (hsub b h2)
     ·exact .inr (by omega)
end Go.Proofs.YtingkbeifohihaaGreatDoor
