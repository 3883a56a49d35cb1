/-
  The first call of every statement of chapter 1: it answers true, and nothing that was there turns.
-/
import Derived.Test.YtdfickppfihiiaaDoorIn
import Derived.Test.YtdfickppfihiiaaDoorOuts
namespace Go.Proofs.YtdfickppfihiiaaDoor
open Go.RowKit

theorem alive_wr1 : (Wr.mk [] 0).nums 2 [258, 1] = ⟨[2, 1, 1, 0], 0⟩ := by rfl
theorem alive_wr2 : (Wr.mk [2, 1, 1, 0] 0).texts [⟨#[97]⟩] = ⟨[2, 1, 1, 0, 1, 0, 97], 0⟩ := by rfl
theorem alive_rd1 : (Rd.mk ⟨#[2, 1, 1, 0, 1, 0, 97]⟩ 0).num 2 = (258, ⟨⟨#[1, 0, 1, 0, 97]⟩, 0⟩) := by rfl
theorem alive_rd2 : (Rd.mk ⟨#[1, 0, 1, 0, 97]⟩ 0).num 2 = (1, ⟨⟨#[1, 0, 97]⟩, 0⟩) := by rfl
theorem alive_rd3 : (Rd.mk ⟨#[1, 0, 97]⟩ 0).text = (⟨#[97]⟩, ⟨⟨#[]⟩, 0⟩) := by rfl
theorem alive_rd4 : (Rd.mk ⟨#[]⟩ 0).fin = (0, ⟨⟨#[]⟩, 0⟩) := by rfl

set_option maxRecDepth 100000 in
set_option maxHeartbeats 2000000 in
theorem alive_any (w : World) : Calls Tryd.prog 10 #[] w fun e w' => e = .returned (.bool true) ∧ Below w.heap.size w w' := by
  go_enter Tryd.func10, Tryd.ntmps10
  go_wp2_with fail
  with_reducible refine (out_half w.heap.size ⟨[], 0⟩ (some ⟨w.heap.size + 1, 0, none⟩) 2 2 [258, 1] _ rfl ?_ (by simp) (inRange_of (by decide)) ?_ (by simp)).mono ?_
  · exact ints_at _ _ _ _ (by simp) rfl
  · exact (OutAt.new w).below ((Below.refl _ _).alloc (Nat.le_refl _) _)
  rintro e w1 ⟨rfl, h1, hg1⟩
  rw [alive_wr1] at h1
  have hb1 : Below w.heap.size w w1 := below_by_new (((Below.refl _ w).alloc (Nat.le_refl _) _).alloc (by simp) _) hg1 (Nat.le_refl _)
  have hlt1 := h1.lt
  clear hg1
  go_wp2_with fail
  with_reducible refine (out_text w.heap.size ⟨[2, 1, 1, 0], 0⟩ (some ⟨w1.heap.size, 0, none⟩) 1 1 [⟨#[97]⟩] _ rfl ?_ (by simp) (by decide) ?_ (by simp)).mono ?_
  · exact txts_at _ _ _ _ (by simp) rfl
  · exact h1.below ((Below.refl _ _).alloc (Nat.le_refl _) _)
  rintro e w2 ⟨rfl, h2, hg2⟩
  rw [alive_wr2] at h2
  have hb2 : Below w.heap.size w w2 := below_by_new (hb1.alloc hb1.size _) hg2 (Nat.le_refl _)
  clear hg2 h1 hb1 hlt1
  go_wp2_with fail
  with_reducible refine (fin_any w.heap.size ⟨[2, 1, 1, 0, 1, 0, 97], 0⟩ _ h2 (Wr.ok_zero _) (by simp)).mono ?_
  rintro e w3 ⟨rfl, _, hb3⟩
  have hb3' : Below w.heap.size w w3 := hb2.trans (hb3.mono hb2.size)
  clear h2 hb2 hb3
  go_wp2_with fail
  with_reducible refine (on_any _ _ (by decide)).mono ?_
  rintro e w4 ⟨g, rfl, hg, h4, hb4⟩
  have hb4' : Below w.heap.size w w4 := hb3'.trans (hb4.mono hb3'.size)
  have hgw : w.heap.size ≤ g := Nat.le_trans hb3'.size hg
  clear hb3' hb4 hg
  go_wp2_with fail
  with_reducible refine (in_half g _ _ h4 (by decide)).mono ?_
  rintro e w5 ⟨rfl, h5, hg5⟩
  have hb5 : Below w.heap.size w w5 := below_by_new hb4' hg5 hgw
  clear h4 hg5 hb4'
  rw [alive_rd1] at h5 ⊢
  go_wp2_with fail
  with_reducible refine (in_half g _ _ h5 (by decide)).mono ?_
  rintro e w6 ⟨rfl, h6, hg6⟩
  have hb6 : Below w.heap.size w w6 := below_by_new hb5 hg6 hgw
  clear h5 hg6 hb5
  rw [alive_rd2] at h6 ⊢
  go_wp2_with fail
  with_reducible refine (in_text g _ _ h6 (by decide)).mono ?_
  rintro e w7 ⟨rfl, h7, hg7⟩
  have hb7 : Below w.heap.size w w7 := below_by_new hb6 hg7 hgw
  clear h6 hg7 hb6
  rw [alive_rd3] at h7 ⊢
  go_wp2_with fail
  with_reducible refine (in_end g _ _ h7).mono ?_
  rintro e w8 ⟨rfl, _, hg8⟩
  have hb8 : Below w.heap.size w w8 := below_by_new hb7 hg8 hgw
  clear h7 hg8 hb7
  rw [alive_rd4]
  go_wp2_with fail
  go_ret
  exact ⟨rfl, hb8⟩
end Go.Proofs.YtdfickppfihiiaaDoor
