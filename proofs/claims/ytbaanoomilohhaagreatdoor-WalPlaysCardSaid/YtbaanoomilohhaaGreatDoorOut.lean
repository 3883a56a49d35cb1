/-
  The writer of package bits: how it lies in memory, and its two inner calls: what each leaves.
-/
import Derived.Test.YtbaanoomilohhaaGreatDoorProg
import Derived.Test.YtbaanoomilohhaaGreatDoorWords
import Derived.Test.YtbaanoomilohhaaGreatDoorOutPure
import Derived.Test.YtbaanoomilohhaaGreatDoorShelf
import Derived.BigQuiet
import Derived.Deep.QuietTactic
import Derived.Outline
namespace Go.Proofs.YtbaanoomilohhaaGreatDoor
open Go.RowKit

/-- The parts that a writer in block o has laid, the latest first: each its block and its bytes. -/
def Chain (w : World) (o : Nat) : Option Addr → List (Nat × ByteArray) → Prop
  | p, [] => p = none
  | p, (q, s) :: r => p = some ⟨q, 0, none⟩ ∧ q ≠ o ∧ 0 < s.size ∧ ∃ p', Blk w q 139 #[.pointer p', .string s] ∧ Chain w o p' r
def cat : List (Nat × ByteArray) → List UInt8
  | [] => []
  | (_, s) :: r => cat r ++ s.data.toList
/-- The writer in block o has laid just s. -/
def OutAt (w : World) (o : Nat) (s : Wr) : Prop :=
  ∃ (p : Option Addr) (r : List (Nat × ByteArray)), Blk w o 119 #[.pointer p, .int .i64 s.l.length, .int .i64 s.e] ∧ Chain w o p r ∧ cat r = s.l

theorem Chain.grown {w w' : World} {o : Nat} (hg : w.grownBy w' (some o)) : ∀ {r : List (Nat × ByteArray)} {p : Option Addr}, Chain w o p r → Chain w' o p r
  | [], _, h => h
  | (q, s) :: r, p, ⟨h1, h2, h3, p', h4, h5⟩ => ⟨h1, h2, h3, p', h4.grown hg (by simpa using h2), Chain.grown hg h5⟩
theorem OutAt.lt {w : World} {o : Nat} {s : Wr} (h : OutAt w o s) : o < w.heap.size := by
  obtain ⟨_, _, h, _⟩ := h
  exact h.lt
/-- A writer stays as it is while another block is written. -/
theorem OutAt.below {w w' : World} {o : Nat} {s : Wr} (h : OutAt w o s) (hb : Below w.heap.size w w') : OutAt w' o s := by
  obtain ⟨p, r, h1, h2, h3⟩ := h
  exact ⟨p, r, h1.below hb h1.lt, h2.grown (by_below hb (Nat.le_refl _)), h3⟩
theorem OutAt.new (w : World) : OutAt (w.alloc (.cells #[.pointer none, .int .i64 0, .int .i64 0] 119)) w.heap.size ⟨[], 0⟩ :=
  ⟨none, [], Blk.new _ _ _, rfl, rfl⟩

set_option maxHeartbeats 400000 in
theorem fail_nil (c : Int) (w : World) :
    Calls Tryz.prog 109 #[.pointer none, .int .i64 c] w fun e w' => e = .returned (.pointer none) ∧ w = w' := by
  go_enter Tryz.func109, Tryz.ntmps109
  go_wp2
  go_ret
  exact ⟨rfl, rfl⟩

set_option maxHeartbeats 400000 in
theorem fail_any (o : Nat) (s : Wr) (c : Int) (w : World) (h : OutAt w o s) :
    Calls Tryz.prog 109 #[.pointer (some ⟨o, 0, none⟩), .int .i64 c] w fun e w' => e = .returned (.pointer (some ⟨o, 0, none⟩)) ∧ OutAt w' o (s.fail c) ∧ w.grownBy w' (some o) := by
  have H := Lib.hid h
  obtain ⟨p, r, h1, h2, h3⟩ := h
  have c0 := h1.cell 0
  have c1 := h1.cell 1
  have c2 := h1.cell 2
  have f0 := h1.frozen 0
  have f1 := h1.frozen 1
  have f2 := h1.frozen 2
  have hl := h1.lt
  simp at c0 c1 c2
  have H1 := Lib.hid h1
  clear h1 h2 h3
  by_cases he : s.e = 0
  · have R : s.fail c = ⟨[], c⟩ := by unfold Wr.fail; rw [if_pos he]
    rw [R]
    clear R
    rw [he] at c2
    clear he
    go_enter Tryz.func109, Tryz.ntmps109
    go_wp2
    go_ret
    exact ⟨rfl, ⟨none, [], ((H1.out.put 0 _).put 1 _).put 2 _, rfl, rfl⟩, by_put (by_put (by_put (by_refl _ _) _ _) _ _) _ _⟩
  · have R : s.fail c = s := by unfold Wr.fail; rw [if_neg he]
    rw [R]
    clear R
    have hc : (s.e == 0) = false := beq_eq_false_iff_ne.2 he
    go_enter Tryz.func109, Tryz.ntmps109
    go_wp2
    go_ret
    exact ⟨rfl, H.out, by_refl _ _⟩

set_option maxHeartbeats 400000 in
theorem lay_nil (b : ByteArray) (w : World) :
    Calls Tryz.prog 110 #[.pointer none, .string b] w fun e w' => e = .returned (.pointer none) ∧ w = w' := by
  go_enter Tryz.func110, Tryz.ntmps110
  go_wp2
  go_ret
  exact ⟨rfl, rfl⟩

set_option maxHeartbeats 400000 in
theorem lay_any (o : Nat) (s : Wr) (b : ByteArray) (w : World) (h : OutAt w o s) (hn : s.l.length + b.size ≤ 9223372036854775807) :
    Calls Tryz.prog 110 #[.pointer (some ⟨o, 0, none⟩), .string b] w fun e w' => e = .returned (.pointer (some ⟨o, 0, none⟩)) ∧ OutAt w' o (s.lay b.data.toList) ∧ w.grownBy w' (some o) := by
  have H := Lib.hid h
  obtain ⟨p, r, h1, h2, h3⟩ := h
  have c0 := h1.cell 0
  have c1 := h1.cell 1
  have c2 := h1.cell 2
  have f0 := h1.frozen 0
  have f1 := h1.frozen 1
  have f2 := h1.frozen 2
  have hl := h1.lt
  simp at c0 c1 c2
  have H1 := Lib.hid h1
  have H2 := Lib.hid h2
  have H3 := Lib.hid h3
  clear h1 h2 h3
  by_cases he : s.e = 0
  · by_cases hb : b.size = 0
    · have hbl : b = .empty := by
        apply ByteArray.ext
        exact Array.eq_empty_of_size_eq_zero hb
      subst hbl
      have R : s.lay ByteArray.empty.data.toList = s := by unfold Wr.lay; rw [if_pos he]; cases s; simp at he ⊢; exact he.symm
      rw [R]
      clear R
      go_enter Tryz.func110, Tryz.ntmps110
      go_wp2
      go_ret
      exact ⟨rfl, H.out, by_refl _ _⟩
    · have R : s.lay b.data.toList = ⟨s.l ++ b.data.toList, 0⟩ := by unfold Wr.lay; rw [if_pos he]
      rw [R]
      clear R
      rw [he] at c2
      have HE := Lib.hid he
      clear he
      have hne : b.toList.isEmpty = false := by
        rw [Lib.toList_data]
        cases hl : b.data.toList with
        | nil => exact absurd (by rw [Lib.size_eq, hl]; rfl) hb
        | cons _ _ => rfl
      have hpos : 0 < b.size := by omega
      clear hb
      go_enter Tryz.func110, Tryz.ntmps110
      go_wp2
      go_ret
      have k1 := ((H1.out.put 0 (.pointer (some ⟨w.heap.size, 0, none⟩))).put 1 (.int .i64 (s.l.length + b.size))).alloc (.cells #[.pointer p, .string b] 139)
      have k2 := by_alloc (by_put (by_put (by_refl w (some o)) 0 (.pointer (some ⟨w.heap.size, 0, none⟩))) 1 (.int .i64 (s.l.length + b.size))) (.cells #[.pointer p, .string b] 139)
      refine ⟨rfl, ⟨some ⟨w.heap.size, 0, none⟩, (w.heap.size, b) :: r, ?_, ⟨rfl, by omega, hpos, p, ?_, H2.out.grown k2⟩, by rw [cat, H3.out]⟩, k2⟩
      · have e : (((s.l ++ b.data.toList).length : Nat) : Int) = s.l.length + b.size := by rw [List.length_append, ← Lib.size_eq]; simp
        rw [show (Wr.mk (s.l ++ b.data.toList) 0).l = s.l ++ b.data.toList from rfl, e]
        rw [HE.out] at k1
        exact k1
      · have := Blk.new ((w.setCell ⟨o, 0, none⟩ (.pointer (some ⟨w.heap.size, 0, none⟩))).setCell ⟨o, 1, none⟩ (.int .i64 (s.l.length + b.size))) 139 #[.pointer p, .string b]
        simpa using this
  · have R : s.lay b.data.toList = s := by unfold Wr.lay; rw [if_neg he]
    rw [R]
    clear R
    have hc : (s.e != 0) = true := by rw [bne_iff_ne]; exact he
    go_enter Tryz.func110, Tryz.ntmps110
    go_wp2
    go_ret
    exact ⟨rfl, H.out, by_refl _ _⟩
end Go.Proofs.YtbaanoomilohhaaGreatDoor
