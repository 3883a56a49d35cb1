/-
  HeadTells: the line that asks for the next head and for the one that is done, step by step. No statement is proved here.
-/
import Derived.Test.YtnpmeolibdjgpaaGreatDoorBookAt
import Derived.Test.YtnpmeolibdjgpaaGreatDoorKnown
import Derived.Test.YtnpmeolibdjgpaaGreatDoorPutPure
namespace Go.Proofs.YtnpmeolibdjgpaaGreatDoor
open Go.RowKit

def slE : Nat → Option Nat
  | 0 => some 160
  | 1 => some 161
  | 2 => some 162
  | 3 => some 163
  | 4 => some 164
  | 5 => some 28
  | 6 => some 29
  | _ => none
theorem slE_far {s : Nat} (hs : s < 160) (h1 : s ≠ 28) (h2 : s ≠ 29) : ∀ i, i < 9 → slE i ≠ some s := by
  intro i hi e
  rcases (show i = 0 ∨ i = 1 ∨ i = 2 ∨ i = 3 ∨ i = 4 ∨ i = 5 ∨ i = 6 ∨ i = 7 ∨ i = 8 by omega) with rfl | rfl | rfl | rfl | rfl | rfl | rfl | rfl | rfl <;> simp [slE] at e <;> omega

def hz : Array Value := #[.int .i64 0, .bool false, .slice none 0 0]

structure EJ (W : World) (h15 s14 : Value) (q : Int) (on : Nat) (order : List Int) (L : Nat → Bool) (f : Nat → Value) (w' : World) : Prop where
  f0 : L 0 = true → f 0 = h15
  f1 : L 1 = true → f 1 = s14
  f2 : L 2 = true → ∃ A' c', f 2 = .agg #[.int .i64 (q + 1), .bool true, .slice A' on c'] ∧ w'.ownsRow W.heap.size 3 1 (.slice A' on c') on (order.map (Value.int .i64))
  f3 : L 3 = true → f 3 = h15
  f4 : L 4 = true → f 4 = .agg #[.int .i64 q, .bool false, .slice none 0 0]
  f5 : L 5 = true → ∃ b, f 5 = .pointer (some ⟨b, 0, none⟩) ∧ W.heap.size ≤ b ∧ (L 7 = false → Blk w' b 29 hz) ∧ (L 7 = true → ∃ A' c', f 2 = .agg #[.int .i64 (q + 1), .bool true, .slice A' on c'] ∧ Blk w' b 29 #[.int .i64 (q + 1), .bool true, .slice A' on c'])
  f6 : L 6 = true → ∃ b, f 6 = .pointer (some ⟨b, 0, none⟩) ∧ W.heap.size ≤ b ∧ (L 8 = false → Blk w' b 29 hz) ∧ (L 8 = true → Blk w' b 29 #[.int .i64 q, .bool false, .slice none 0 0]) ∧ (L 5 = true → f 5 ≠ .pointer (some ⟨b, 0, none⟩))
  below : Below W.heap.size W w'

variable {W : World} {h15 s14 : Value} {q : Int} {on : Nat} {order : List Int} {L : Nat → Bool} {f : Nat → Value} {w' w'' : World}
theorem EJ.start : EJ W h15 s14 q on order (fun _ => false) (fun _ => undef) W.drew :=
  ⟨(fun h => by cases h), (fun h => by cases h), (fun h => by cases h), (fun h => by cases h), (fun h => by cases h), (fun h => by cases h), (fun h => by cases h), (Below.refl _ _).drew⟩
theorem EJ.more (k : EJ W h15 s14 q on order L f w') (hb : Below w'.heap.size w' w'') : EJ W h15 s14 q on order L f w'' := by
  refine ⟨k.f0, k.f1, fun h => ?_, k.f3, k.f4, fun h => ?_, fun h => ?_, k.below.trans (hb.mono k.below.size)⟩
  · obtain ⟨A', c', e, hr⟩ := k.f2 h
    exact ⟨A', c', e, row_below hr hb⟩
  · obtain ⟨b, e1, e2, e3, e4⟩ := k.f5 h
    exact ⟨b, e1, e2, fun h7 => (e3 h7).below hb (e3 h7).lt, fun h7 => by
      obtain ⟨A', c', d1, d2⟩ := e4 h7
      exact ⟨A', c', d1, d2.below hb d2.lt⟩⟩
  · obtain ⟨b, e1, e2, e3, e4, e5⟩ := k.f6 h
    exact ⟨b, e1, e2, fun h7 => (e3 h7).below hb (e3 h7).lt, fun h7 => (e4 h7).below hb (e4 h7).lt, e5⟩
theorem EJ.at0 (k : EJ W h15 s14 q on order L f w') : EJ W h15 s14 q on order (fun j => if 0 = j then true else L j) (fun j => if 0 = j then h15 else f j) w' := ⟨fun _ => rfl, k.f1, k.f2, k.f3, k.f4, k.f5, k.f6, k.below⟩
theorem EJ.at1 (k : EJ W h15 s14 q on order L f w') : EJ W h15 s14 q on order (fun j => if 1 = j then true else L j) (fun j => if 1 = j then s14 else f j) w' := ⟨k.f0, fun _ => rfl, k.f2, k.f3, k.f4, k.f5, k.f6, k.below⟩
theorem EJ.at3 (k : EJ W h15 s14 q on order L f w') : EJ W h15 s14 q on order (fun j => if 3 = j then true else L j) (fun j => if 3 = j then h15 else f j) w' := ⟨k.f0, k.f1, k.f2, fun _ => rfl, k.f4, k.f5, k.f6, k.below⟩
theorem EJ.at2 (k : EJ W h15 s14 q on order L f w') (h7 : L 7 = false) {A' : Option Addr} {c' : Nat} (hr : w''.ownsRow w'.heap.size 3 1 (.slice A' on c') on (order.map (Value.int .i64))) (hb : Below w'.heap.size w' w'') :
    EJ W h15 s14 q on order (fun j => if 2 = j then true else L j) (fun j => if 2 = j then .agg #[.int .i64 (q + 1), .bool true, .slice A' on c'] else f j) w'' := by
  have kk := k.more hb
  refine ⟨kk.f0, kk.f1, fun _ => ⟨A', c', rfl, row_lower hr k.below.size⟩, kk.f3, kk.f4, fun h => ?_, kk.f6, kk.below⟩
  obtain ⟨b, e1, e2, e3, e4⟩ := kk.f5 h
  exact ⟨b, e1, e2, e3, fun h => by rw [show L 7 = true from h] at h7; cases h7⟩
theorem EJ.at4 (k : EJ W h15 s14 q on order L f w') (hb : Below w'.heap.size w' w'') :
    EJ W h15 s14 q on order (fun j => if 4 = j then true else L j) (fun j => if 4 = j then .agg #[.int .i64 q, .bool false, .slice none 0 0] else f j) w'' := by
  have kk := k.more hb
  exact ⟨kk.f0, kk.f1, kk.f2, kk.f3, fun _ => rfl, kk.f5, kk.f6, kk.below⟩
theorem EJ.at5 (k : EJ W h15 s14 q on order L f w') (h7 : L 7 = false) :
    EJ W h15 s14 q on order (fun j => if 5 = j then true else L j) (fun j => if 5 = j then .pointer (some ⟨w'.heap.size, 0, none⟩) else f j) (w'.alloc (.cells hz 29)) := by
  have kk := k.more ((Below.refl _ _).alloc (Nat.le_refl _) (.cells hz 29))
  refine ⟨kk.f0, kk.f1, kk.f2, kk.f3, kk.f4, fun _ => ⟨_, rfl, k.below.size, fun _ => Blk.new _ _ _, fun h => by rw [show L 7 = true from h] at h7; cases h7⟩, fun h => ?_, kk.below⟩
  obtain ⟨b, e1, e2, e3, e4, e5⟩ := k.f6 h
  have hlt : b < w'.heap.size := by
    cases h8 : L 8 with
    | false => exact (e3 h8).lt
    | true => exact (e4 h8).lt
  obtain ⟨b', d1, d2, d3, d4, d5⟩ := kk.f6 h
  have : b' = b := by rw [e1] at d1; injection d1 with d1; injection d1 with d1; injection d1 with d1 _; exact d1.symm
  subst this
  refine ⟨b', d1, d2, d3, d4, fun _ e => ?_⟩
  injection e with e
  injection e with e
  injection e with e _
  omega
theorem EJ.at6 (k : EJ W h15 s14 q on order L f w') (h8 : L 8 = false) :
    EJ W h15 s14 q on order (fun j => if 6 = j then true else L j) (fun j => if 6 = j then .pointer (some ⟨w'.heap.size, 0, none⟩) else f j) (w'.alloc (.cells hz 29)) := by
  have kk := k.more ((Below.refl _ _).alloc (Nat.le_refl _) (.cells hz 29))
  refine ⟨kk.f0, kk.f1, kk.f2, kk.f3, kk.f4, kk.f5, fun _ => ⟨_, rfl, k.below.size, fun _ => Blk.new _ _ _, (fun h => by rw [show L 8 = true from h] at h8; cases h8), fun h e => ?_⟩, kk.below⟩
  obtain ⟨b, e1, e2, e3, e4⟩ := k.f5 h
  have hlt : b < w'.heap.size := by
    cases h7 : L 7 with
    | false => exact (e3 h7).lt
    | true =>
      obtain ⟨_, _, _, h⟩ := e4 h7
      exact h.lt
  have e : f 5 = .pointer (some ⟨w'.heap.size, 0, none⟩) := e
  rw [e1] at e
  injection e with e
  injection e with e
  injection e with e _
  omega
theorem setRow_below {B : Nat} {w0 w : World} (h : Below B w0 w) {b : Nat} (hb : B ≤ b) (hB : B ≤ w.heap.size) (cs : Array Value) : Below B w0 (w.setRow b cs) :=
  h.grown (by_setRow (row := b) (w0 := w) ⟨rfl, rfl, rfl, Nat.le_refl _, fun _ _ _ => rfl⟩ cs) hB (fun k e => by injection e with e; omega)
theorem row_setRow {w : World} {base n : Nat} {v : Value} {xs : List Value} (h : w.ownsRow base 3 1 v n xs) {b : Nat} {cs : Array Value} (hb : Blk w b 29 cs) (cs' : Array Value) : (w.setRow b cs').ownsRow base 3 1 v n xs :=
  row_kept' h fun r hr => setRow_other w b r cs' (fun e => row_off h hb (by decide) (by rw [← e]; exact hr))
theorem EJ.at7 (k : EJ W h15 s14 q on order L f w') (h2 : L 2 = true) (h5 : L 5 = true) (h7 : L 7 = false) : ∃ b A' c', f 5 = .pointer (some ⟨b, 0, none⟩) ∧ f 2 = .agg #[.int .i64 (q + 1), .bool true, .slice A' on c'] ∧ Blk w' b 29 hz ∧
    EJ W h15 s14 q on order (fun j => if 7 = j then true else L j) (fun j => if 7 = j then undef else f j) (w'.setRow b #[.int .i64 (q + 1), .bool true, .slice A' on c']) := by
  obtain ⟨b, e1, e2, e3, -⟩ := k.f5 h5
  obtain ⟨A', c', d1, d2⟩ := k.f2 h2
  have hz3 := e3 h7
  refine ⟨b, A', c', e1, d1, hz3, k.f0, k.f1, fun _ => ⟨A', c', d1, row_setRow d2 hz3 _⟩, k.f3, k.f4, fun _ => ⟨b, e1, e2, (fun h => by cases h), fun _ => ⟨A', c', d1, blk_setRow hz3 _⟩⟩, fun h => ?_, setRow_below k.below e2 k.below.size _⟩
  obtain ⟨b', g1, g2, g3, g4, g5⟩ := k.f6 h
  have hne : b' ≠ b := fun e => g5 h5 (by rw [e1, e])
  exact ⟨b', g1, g2, fun h8 => blk_setRow_far (g3 h8) hne _, fun h8 => blk_setRow_far (g4 h8) hne _, g5⟩
theorem EJ.at8 (k : EJ W h15 s14 q on order L f w') (h6 : L 6 = true) (h8 : L 8 = false) : ∃ b, f 6 = .pointer (some ⟨b, 0, none⟩) ∧ Blk w' b 29 hz ∧
    EJ W h15 s14 q on order (fun j => if 8 = j then true else L j) (fun j => if 8 = j then undef else f j) (w'.setRow b #[.int .i64 q, .bool false, .slice none 0 0]) := by
  obtain ⟨b, e1, e2, e3, -, e5⟩ := k.f6 h6
  have hz3 := e3 h8
  refine ⟨b, e1, hz3, k.f0, k.f1, fun h => ?_, k.f3, k.f4, fun h => ?_, fun _ => ⟨b, e1, e2, (fun h => by cases h), fun _ => blk_setRow hz3 _, e5⟩, setRow_below k.below e2 k.below.size _⟩
  · obtain ⟨A', c', d1, d2⟩ := k.f2 h
    exact ⟨A', c', d1, row_setRow d2 hz3 _⟩
  · obtain ⟨b', g1, g2, g3, g4⟩ := k.f5 h
    have hne : b' ≠ b := fun e => e5 h (by show f 5 = _; rw [g1, e])
    exact ⟨b', g1, g2, fun h7 => blk_setRow_far (g3 h7) hne _, fun h7 => by
      obtain ⟨A', c', d1, d2⟩ := g4 h7
      exact ⟨A', c', d1, blk_setRow_far d2 hne _⟩⟩
theorem EJ.end (k : EJ W h15 s14 q on order L f w') (hL : ∀ j, j < 9 → L j = true) : ∃ b b' A' c', f 5 = .pointer (some ⟨b, 0, none⟩) ∧ f 6 = .pointer (some ⟨b', 0, none⟩) ∧ Blk w' b 29 #[.int .i64 (q + 1), .bool true, .slice A' on c'] ∧ Blk w' b' 29 #[.int .i64 q, .bool false, .slice none 0 0] ∧
    w'.ownsRow W.heap.size 3 1 (.slice A' on c') on (order.map (Value.int .i64)) ∧ Below W.heap.size W w' := by
  obtain ⟨b, e1, e2, -, e4⟩ := k.f5 (hL 5 (by omega))
  obtain ⟨A', c', d1, d2⟩ := e4 (hL 7 (by omega))
  obtain ⟨b', g1, g2, -, g4, -⟩ := k.f6 (hL 6 (by omega))
  obtain ⟨A2, c2, m1, m2⟩ := k.f2 (hL 2 (by omega))
  rw [d1] at m1
  injection m1 with m1
  have m1 : A' = A2 ∧ c' = c2 := by
    injection m1 with m1
    injection m1 with _ m1
    injection m1 with _ m1
    injection m1 with m1 _
    injection m1 with m1 _ m3
    exact ⟨m1, m3⟩
  obtain ⟨rfl, rfl⟩ := m1
  exact ⟨b, b', A', c', e1, g1, d2, g4 (hL 8 (by omega)), m2, k.below⟩
theorem putL_len (x : Int) : ∀ l : List Int, (putL x l).length ≤ l.length + 1
  | [] => by simp [putL]
  | y :: r => by
    unfold putL
    split
    · simp only [List.length_cons]; have := putL_len x r; omega
    · split
      · simp
      · simp
end Go.Proofs.YtnpmeolibdjgpaaGreatDoor
