/-
  Lists cloned: new rows of the same. No statement is proved here.
-/
import Derived.Test.YtbaanoomilohhaaGreatDoorDiskSmall
import Derived.BigCall
import Derived.Lib.SliceRun
import Derived.Deep.AppendLies
namespace Go.Proofs.YtbaanoomilohhaaGreatDoor
open Go.RowKit

theorem cltexts_info : (Tryz.prog.info? 9).map (fun i => (i.zero, i.size, i.bytes)) = some (some (.string .empty), 1, 16) := by kernel_rfl
set_option maxRecDepth 100000 in
set_option maxHeartbeats 1000000 in
theorem cltexts_any (A : Option Addr) (m c : Nat) (l : List ByteArray) (w : World) (hl : l.length = m) (hA : ∀ ad, A = some ad → ∀ (j : Nat) (u : Value), (l.map Value.string)[j]? = some u → w.cell? (ad.add j) = some u) (h0 : A = none → m = 0 ∧ c = 0) (hm : m ≤ 1000000000000) :
    Calls Tryz.prog 28 #[.slice A m c] w fun e w' => ∃ v, e = .returned v ∧ w'.ownsRow w.heap.size 9 1 v m (l.map Value.string) ∧ Below w.heap.size w w' := by
  obtain ⟨i0, hi, hz0, hz1, hz2⟩ := info_parts cltexts_info
  have HM := Lib.hid hl
  have H0 := Lib.hid h0
  rcases A with _ | ad
  · obtain ⟨rfl, rfl⟩ := h0 rfl
    have hxs : l = [] := List.eq_nil_of_length_eq_zero hl
    subst hxs
    have q : ∀ w, (binOp .eql 32 (.slice none 0 0) (.slice none 0 0)).run Tryz.prog w = .ok (.bool true) w := fun w => Lib.run_eql_slice_nil w 32 _ none 0 0 0 0 Tryz.underlying32
    clear hA h0 hl
    go_enter Tryz.func28, Tryz.ntmps28
    go_wp2_with fail
    go_ret
    exact ⟨_, rfl, World.ownsRow_nil _ _ _ _, Below.refl _ _⟩
  · have hone : ∀ u ∈ (l.map Value.string), u.oneCell' = true := by
      intro u hu
      obtain ⟨x, _, rfl⟩ := List.mem_map.1 hu
      rfl
    have HN := Lib.hid (hA ad rfl)
    have HO := Lib.hid hone
    have HE : Hid ((w.alloc (.cells #[] 9)).ownsRow w.heap.size 9 1 (.slice (some ⟨w.heap.size, 0, none⟩) 0 0) 0 []) := Lib.hid (World.ownsRow_made w #[] 0 (Nat.le_refl _) (by decide) rfl)
    have HC : Hid ((l.map Value.string).length = m * 1) := Lib.hid (by rw [List.length_map, hl]; omega)
    have HB : Hid (Below w.heap.size w (w.alloc (.cells #[] 9))) := Lib.hid ((Below.refl _ _).alloc (Nat.le_refl _) _)
    have HNN : Hid (∀ (j : Nat) (u : Value), (l.map Value.string)[j]? = some u → (w.alloc (.cells #[] 9)).cell? (ad.add j) = some u) := Lib.hid (fun j u hu => by
      have h1 := HN.out j u hu
      have hlt := World.block_lt_of_cell? w _ h1
      rw [World.cell?_of_block (Below.heap_alloc w _ _ hlt)]
      exact h1)
    have q : ∀ w, (binOp .eql 32 (.slice (some ad) m c) (.slice none 0 0)).run Tryz.prog w = .ok (.bool false) w := fun w => Lib.run_eql_slice_nil w 32 _ (some ad) m c 0 0 Tryz.underlying32
    clear hA h0 hone hl
    go_enter Tryz.func28, Tryz.ntmps28
    go_wp2_with (at_builtin; refine wpList_append_own _ rfl _ _ 32 rfl w.heap.size 9 i0 (.string .empty) 1 16 Tryz.underlying32 hi hz0 hz1 hz2 rfl (by omega) (.slice (some ⟨w.heap.size, 0, none⟩) 0 0) 0 [] rfl HE.out ad m c (l.map Value.string) rfl HC.out HNN.out HO.out (by unfold maxLen; omega) (by omega) (by simp) ?_; intro v1 w1 hown1 hg1 _)
    have hb1 : Below w.heap.size w w1 := HB.out.grown hg1 (by simp) (by simp [Value.ownBlock])
    have HOW := Lib.hid hown1
    clear hown1 hg1
    go_ret
    exact ⟨v1, rfl, by simpa using HOW.out, hb1⟩

theorem clints_info : (Tryz.prog.info? 3).map (fun i => (i.zero, i.size, i.bytes)) = some (some (.int .i64 0), 1, 8) := by kernel_rfl
set_option maxRecDepth 100000 in
set_option maxHeartbeats 1000000 in
theorem clints_any (A : Option Addr) (m c : Nat) (l : List Int) (w : World) (hl : l.length = m) (hA : ∀ ad, A = some ad → ∀ (j : Nat) (u : Value), (l.map (Value.int .i64))[j]? = some u → w.cell? (ad.add j) = some u) (h0 : A = none → m = 0 ∧ c = 0) (hm : m ≤ 1000000000000) :
    Calls Tryz.prog 41 #[.slice A m c] w fun e w' => ∃ v, e = .returned v ∧ w'.ownsRow w.heap.size 3 1 v m (l.map (Value.int .i64)) ∧ Below w.heap.size w w' := by
  obtain ⟨i0, hi, hz0, hz1, hz2⟩ := info_parts clints_info
  have HM := Lib.hid hl
  have H0 := Lib.hid h0
  rcases A with _ | ad
  · obtain ⟨rfl, rfl⟩ := h0 rfl
    have hxs : l = [] := List.eq_nil_of_length_eq_zero hl
    subst hxs
    have q : ∀ w, (binOp .eql 35 (.slice none 0 0) (.slice none 0 0)).run Tryz.prog w = .ok (.bool true) w := fun w => Lib.run_eql_slice_nil w 35 _ none 0 0 0 0 Tryz.underlying35
    clear hA h0 hl
    go_enter Tryz.func41, Tryz.ntmps41
    go_wp2_with fail
    go_ret
    exact ⟨_, rfl, World.ownsRow_nil _ _ _ _, Below.refl _ _⟩
  · have hone : ∀ u ∈ (l.map (Value.int .i64)), u.oneCell' = true := by
      intro u hu
      obtain ⟨x, _, rfl⟩ := List.mem_map.1 hu
      rfl
    have HN := Lib.hid (hA ad rfl)
    have HO := Lib.hid hone
    have HE : Hid ((w.alloc (.cells #[] 3)).ownsRow w.heap.size 3 1 (.slice (some ⟨w.heap.size, 0, none⟩) 0 0) 0 []) := Lib.hid (World.ownsRow_made w #[] 0 (Nat.le_refl _) (by decide) rfl)
    have HC : Hid ((l.map (Value.int .i64)).length = m * 1) := Lib.hid (by rw [List.length_map, hl]; omega)
    have HB : Hid (Below w.heap.size w (w.alloc (.cells #[] 3))) := Lib.hid ((Below.refl _ _).alloc (Nat.le_refl _) _)
    have HNN : Hid (∀ (j : Nat) (u : Value), (l.map (Value.int .i64))[j]? = some u → (w.alloc (.cells #[] 3)).cell? (ad.add j) = some u) := Lib.hid (fun j u hu => by
      have h1 := HN.out j u hu
      have hlt := World.block_lt_of_cell? w _ h1
      rw [World.cell?_of_block (Below.heap_alloc w _ _ hlt)]
      exact h1)
    have q : ∀ w, (binOp .eql 35 (.slice (some ad) m c) (.slice none 0 0)).run Tryz.prog w = .ok (.bool false) w := fun w => Lib.run_eql_slice_nil w 35 _ (some ad) m c 0 0 Tryz.underlying35
    clear hA h0 hone hl
    go_enter Tryz.func41, Tryz.ntmps41
    go_wp2_with (at_builtin; refine wpList_append_own _ rfl _ _ 35 rfl w.heap.size 3 i0 (.int .i64 0) 1 8 Tryz.underlying35 hi hz0 hz1 hz2 rfl (by omega) (.slice (some ⟨w.heap.size, 0, none⟩) 0 0) 0 [] rfl HE.out ad m c (l.map (Value.int .i64)) rfl HC.out HNN.out HO.out (by unfold maxLen; omega) (by omega) (by simp) ?_; intro v1 w1 hown1 hg1 _)
    have hb1 : Below w.heap.size w w1 := HB.out.grown hg1 (by simp) (by simp [Value.ownBlock])
    have HOW := Lib.hid hown1
    clear hown1 hg1
    go_ret
    exact ⟨v1, rfl, by simpa using HOW.out, hb1⟩

theorem clwrites_info : (Tryz.prog.info? 39).map (fun i => (i.zero, i.size, i.bytes)) = some (some (.agg #[.int .i64 0, .string .empty]), 2, 24) := by kernel_rfl
end Go.Proofs.YtbaanoomilohhaaGreatDoor
