/-
  Package mark's Of; the statements' first call of fingerprints.
-/
import Derived.Test.YtokddfbjjghpkaaDoorMarkText
import Derived.Test.YtokddfbjjghpkaaDoorOneSum
import Derived.Test.YtokddfbjjghpkaaDoorTwoSum
namespace Go.Proofs.YtokddfbjjghpkaaDoor
open Go.RowKit

/-- A struct in a cell of its own, and a number. -/
theorem ret_cell2 {P : Program} {fn : Func} {R : Ending → World → Prop} {a : Act} {w : World} {q r : Tmp} {ty : TypeId} {ad : Addr} {v u : Value} (h : fn.results = #[.cell q ty, .tmp r]) (hp : a.tmps.getD q undef = .pointer (some ad))
    (hl : (loadVar ty ad).run P w = .ok v w) (hu : a.tmps.getD r undef = u) (hd : a.defers = []) (hR : R (.returned (.tuple #[v, u])) w) : bodyPost P fn R .ret a w := by
  refine bodyPost_ret (v := .tuple #[v, u]) ?_ hd hR
  simp only [results, h]
  have hp' : a.tmps[q]?.getD undef = .pointer (some ad) := by simpa using hp
  have hu' : a.tmps[r]?.getD undef = u := by simpa using hu
  simp [hp', hu', asAddr, hl]

/-- The print of texts; none of another kind. -/
def printOf (kind : Int) (xs : List ByteArray) : ByteArray := if kind = 1 then ⟨(oneB (cats xs)).toArray⟩ else ⟨(twoB (cats xs)).toArray⟩
def ofV (kind : Int) (xs : List ByteArray) : Value := if sizeK kind = 0 then .tuple #[.agg #[.int .i64 0, .string .empty], .int .i64 1] else .tuple #[.agg #[.int .i64 kind, .string (printOf kind xs)], .int .i64 0]

set_option maxRecDepth 100000 in
set_option maxHeartbeats 1000000 in
theorem mof_any (k : Int) (A : Option Addr) (m c : Nat) (xs : List ByteArray) (w : World) (hm : xs.length = m) (hx : Txts w w.heap.size A xs) (hc : m ≤ c) (hl : m ≤ 1000) (hs : (cats xs).length ≤ 100000) :
    Calls Tryd.prog 5 #[.int .i64 k, .slice A m c] w fun e w' => e = .returned (ofV k xs) ∧ Below w.heap.size w w' := by
  by_cases h1 : k = 1
  · subst h1
    have HS := Lib.hid (fun w1 h => sum_any A m c xs w1 hm h (by omega) (by omega))
    obtain ⟨T, hT⟩ : ∃ T : ByteArray, T = ⟨(oneB (cats xs)).toArray⟩ := ⟨_, rfl⟩
    have E := Lib.hid (show ofV 1 xs = .tuple #[.agg #[.int .i64 1, .string T], .int .i64 0] by rw [hT]; rfl)
    rw [← hT] at HS
    have HX := Lib.hid hx
    clear hx hT
    go_enter Tryd.func5, Tryd.ntmps5
    go_wp2_with fail
    refine (HS.out _ ((HX.out.below ((Below.refl _ _).alloc (Nat.le_refl _) _)).more (by simp))).mono ?_
    rintro e w1 ⟨rfl, hb1⟩
    have b1 : Blk w1 w.heap.size 24 #[.int .i64 0, .string ⟨#[]⟩] := (Blk.new w _ _).below hb1 (by simp)
    have hb : Below w.heap.size w w1 := ((Below.refl _ _).alloc (Nat.le_refl _) _).trans (hb1.mono (by simp))
    have c0 := b1.cell 0
    have c1 := b1.cell 1
    have f0 := b1.frozen 0
    have f1 := b1.frozen 1
    simp at c0 c1
    clear hb1
    go_wp2_with fail
    have b2 := (b1.put 0 (.int .i64 1)).put 1 (.string T)
    have hl : (loadVar 24 ⟨w.heap.size, 0, none⟩).run Tryd.prog ((w1.setCell ⟨w.heap.size, 0, none⟩ (.int .i64 1)).setCell ⟨w.heap.size, 1, none⟩ (.string T)) = .ok (.agg #[.int .i64 1, .string T]) _ :=
      run_var_part (off := 0) b2 (fun j v h => by rw [Nat.zero_add]; exact h) (fun w => by kernel_rfl) (fun w => by kernel_rfl)
    refine ret_cell2 rfl rfl hl rfl rfl ?_
    exact ⟨by rw [E.out]; rfl, (hb.setCell (Nat.le_refl _) _).setCell (Nat.le_refl _) _⟩
  · by_cases h2 : k = 2
    · subst h2
      have HS := Lib.hid (fun w1 h => sum_two A m c xs w1 hm h hc (by omega) (by omega))
      obtain ⟨T, hT⟩ : ∃ T : ByteArray, T = ⟨(twoB (cats xs)).toArray⟩ := ⟨_, rfl⟩
      have E := Lib.hid (show ofV 2 xs = .tuple #[.agg #[.int .i64 2, .string T], .int .i64 0] by rw [hT]; rfl)
      rw [← hT] at HS
      have HX := Lib.hid hx
      clear hx hT
      go_enter Tryd.func5, Tryd.ntmps5
      go_wp2_with fail
      refine (HS.out _ ((HX.out.below ((Below.refl _ _).alloc (Nat.le_refl _) _)).more (by simp))).mono ?_
      rintro e w1 ⟨rfl, hb1⟩
      have b1 : Blk w1 w.heap.size 24 #[.int .i64 0, .string ⟨#[]⟩] := (Blk.new w _ _).below hb1 (by simp)
      have hb : Below w.heap.size w w1 := ((Below.refl _ _).alloc (Nat.le_refl _) _).trans (hb1.mono (by simp))
      have c0 := b1.cell 0
      have c1 := b1.cell 1
      have f0 := b1.frozen 0
      have f1 := b1.frozen 1
      simp at c0 c1
      clear hb1
      go_wp2_with fail
      have b2 := (b1.put 0 (.int .i64 2)).put 1 (.string T)
      have hl : (loadVar 24 ⟨w.heap.size, 0, none⟩).run Tryd.prog ((w1.setCell ⟨w.heap.size, 0, none⟩ (.int .i64 2)).setCell ⟨w.heap.size, 1, none⟩ (.string T)) = .ok (.agg #[.int .i64 2, .string T]) _ :=
        run_var_part (off := 0) b2 (fun j v h => by rw [Nat.zero_add]; exact h) (fun w => by kernel_rfl) (fun w => by kernel_rfl)
      refine ret_cell2 rfl rfl hl rfl rfl ?_
      exact ⟨by rw [E.out]; rfl, (hb.setCell (Nat.le_refl _) _).setCell (Nat.le_refl _) _⟩
    · have E := Lib.hid (show ofV k xs = .tuple #[.agg #[.int .i64 0, .string .empty], .int .i64 1] from if_pos (sizeK_other h1 h2))
      have e1 : (k == 1) = false := beq_eq_false_iff_ne.2 h1
      have e2 : (k == 2) = false := beq_eq_false_iff_ne.2 h2
      clear h1 h2 hx
      go_enter Tryd.func5, Tryd.ntmps5
      go_wp2_with fail
      have b1 : Blk (w.alloc (.cells #[.int .i64 0, .string ⟨#[]⟩] 24)) w.heap.size 24 #[.int .i64 0, .string ⟨#[]⟩] := Blk.new w _ _
      have hl : (loadVar 24 ⟨w.heap.size, 0, none⟩).run Tryd.prog (w.alloc (.cells #[.int .i64 0, .string ⟨#[]⟩] 24)) = .ok (.agg #[.int .i64 0, .string ⟨#[]⟩]) _ :=
        run_var_part (off := 0) b1 (fun j v h => by rw [Nat.zero_add]; exact h) (fun w => by kernel_rfl) (fun w => by kernel_rfl)
      refine ret_cell2 rfl rfl hl rfl rfl ?_
      exact ⟨by rw [E.out]; rfl, (Below.refl _ _).alloc (Nat.le_refl _) _⟩

theorem one_abc6 : hexB (oneB (cats [⟨#[97]⟩, ⟨#[98, 99]⟩])) = [97, 57, 57, 57, 51, 101, 51, 54, 52, 55, 48, 54, 56, 49, 54, 97, 98, 97, 51, 101, 50, 53, 55, 49, 55, 56, 53, 48, 99, 50, 54, 99, 57, 99, 100, 48, 100, 56, 57, 100] := one_abc

set_option maxRecDepth 100000 in
set_option maxHeartbeats 2000000 in
theorem alive6_any (w : World) : Calls Tryd.prog 4 #[] w fun e w' => e = .returned (.bool true) ∧ Below w.heap.size w w' := by
  obtain ⟨T, hT⟩ : ∃ T : ByteArray, T = ⟨(oneB (cats [⟨#[97]⟩, ⟨#[98, 99]⟩])).toArray⟩ := ⟨_, rfl⟩
  have HO : Hid (∀ (w1 : World) (g : Nat), Txts w1 w1.heap.size (some ⟨g, 0, none⟩) [⟨#[97]⟩, ⟨#[98, 99]⟩] → Calls Tryd.prog 5 #[.int .i64 1, .slice (some ⟨g, 0, none⟩) 2 2] w1 fun e w' => e = .returned (.tuple #[.agg #[.int .i64 1, .string T], .int .i64 0]) ∧ Below w1.heap.size w1 w') :=
    Lib.hid (fun w1 g h => by
      have := mof_any 1 (some ⟨g, 0, none⟩) 2 2 _ w1 rfl h (by omega) (by omega) (by decide)
      rw [hT]
      exact this)
  have hts : T.size = 20 := by rw [hT]; show (oneB _).toArray.size = 20; simp [oneB_length]
  have HH : Hid (∀ w1, Calls Tryd.prog 8 #[.agg #[.int .i64 1, .string T]] w1 fun e w' => e = .returned (.string ⟨#[97, 57, 57, 57, 51, 101, 51, 54, 52, 55, 48, 54, 56, 49, 54, 97, 98, 97, 51, 101, 50, 53, 55, 49, 55, 56, 53, 48, 99, 50, 54, 99, 57, 99, 100, 48, 100, 56, 57, 100]⟩) ∧ Below w1.heap.size w1 w') :=
    Lib.hid (fun w1 => by
      have := mtext_any 1 T w1 (by omega)
      rw [show T.data.toList = oneB (cats [⟨#[97]⟩, ⟨#[98, 99]⟩]) by rw [hT], one_abc6] at this
      exact this)
  have HV : Hid (∀ w1, Calls Tryd.prog 9 #[.agg #[.int .i64 1, .string T]] w1 fun e w' => e = .returned (.bool true) ∧ Below w1.heap.size w1 w') :=
    Lib.hid (fun w1 => by
      have := valid_any 1 T w1
      rwa [show validK 1 T = true by unfold validK; rw [hts]; rfl] at this)
  have HZ : Hid (∀ w1, Calls Tryd.prog 10 #[.int .i64 2] w1 fun e w' => e = .returned (.int .i64 32) ∧ w1 = w') := Lib.hid (fun w1 => size_any 2 w1)
  clear hT hts
  go_enter Tryd.func4, Tryd.ntmps4
  go_wp2_with fail
  refine (HO.out _ _ (txts_at _ _ _ _ rfl rfl)).mono ?_
  rintro e w1 ⟨rfl, hb1⟩
  have k1 : Below w.heap.size w w1 := ((Below.refl _ _).alloc (Nat.le_refl _) _).trans (hb1.mono (by simp))
  clear hb1
  go_wp2_with fail
  refine (HH.out _).mono ?_
  rintro e w2 ⟨rfl, hb2⟩
  have b2 : Blk w2 w1.heap.size 24 #[.int .i64 1, .string T] := by
    refine Blk.below ?_ hb2 (by simp)
    exact Blk.new w1 _ _
  have k2 : Below w.heap.size w w2 := by
    refine Below.trans ?_ (hb2.mono ?_)
    · exact k1.alloc k1.size _
    · have := k1.size; simp; omega
  have c0 := b2.cell 0
  have c1 := b2.cell 1
  simp at c0 c1
  clear hb2
  go_wp2_with fail
  refine (HV.out _).mono ?_
  rintro e w3 ⟨rfl, hb3⟩
  have k3 := k2.trans (hb3.mono k2.size)
  clear c0 c1 b2 hb3 k1 k2
  go_wp2_with (go_at_call 10; refine (HZ.out _).mono ?_; rintro e w4 ⟨rfl, rfl⟩)
  go_ret
  exact ⟨rfl, k3⟩
end Go.Proofs.YtokddfbjjghpkaaDoor
