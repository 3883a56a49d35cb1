/-
  The statements' first call of package fixed, and lists of spans that came in. No statement is proved here.
-/
import Derived.Test.YtcikdndkingegaaFixed
import Derived.Test.YtcikdndkingegaaViews
import Derived.Lib.SmallJoins
import Derived.Deep.SlicePairs
import Derived.Deep.Slices
namespace Go.Proofs.Ytcikdndkingegaa
open Go.RowKit

theorem cut_two : cutS 4 5 = [(0, 4), (4, 5)] := by decide +kernel
theorem whole_two : wholeB 5 [(0, 4), (4, 5)] = true := by decide +kernel

set_option maxRecDepth 100000 in
set_option maxHeartbeats 2000000 in
theorem alive13_any (w : World) : Calls Try.prog 7 #[] w fun e w' => e = .returned (.bool true) ∧ Below w.heap.size w w' := by
  obtain ⟨w1, hw1⟩ : ∃ w1, w1 = w.alloc (.cells #[.string ⟨#[97, 98]⟩, .string ⟨#[99, 100, 101]⟩] 9) := ⟨_, rfl⟩
  have hb1 : Below w.heap.size w w1 := by rw [hw1]; exact (Below.refl _ _).alloc (Nat.le_refl _) _
  have hcut := fcut_any 4 (some ⟨w.heap.size, 0, none⟩) 2 2 [⟨#[97, 98]⟩, ⟨#[99, 100, 101]⟩] w1 (by omega) rfl (by rw [hw1]; exact txts_at _ _ _ _ rfl rfl) (by omega) (by decide +kernel)
  rw [show (cats [⟨#[97, 98]⟩, ⟨#[99, 100, 101]⟩]).length = 5 by decide +kernel, cut_two] at hcut
  have HCUT := Lib.hid hcut
  have HB1 := Lib.hid hb1
  clear hcut hb1
  go_enter Try.func7, Try.ntmps7
  go_wp2_with (go_at_call 11; rw [← hw1]; refine HCUT.out.mono ?_; rintro e w2 ⟨p, cap, rfl, hown, hb2⟩)
  obtain ⟨pp, cc, ee, -, -, h0, ha⟩ := krow_form hown
  injection ee with ee _ e3
  subst ee e3
  obtain ⟨g, rfl⟩ : ∃ g, p = some ⟨g, 0, none⟩ := by
    rcases p with _ | a
    · exact absurd (h0 rfl) (by decide)
    · exact ⟨a.block, by rw [← ha a rfl]⟩
  have c0 : w2.cell? ⟨g, 0, none⟩ = some (.int .i64 0) := krow_cell hown rfl
  have c1 : w2.cell? ⟨g, 1, none⟩ = some (.int .i64 4) := krow_cell hown rfl
  have c2 : w2.cell? ⟨g, 2, none⟩ = some (.int .i64 4) := krow_cell hown rfl
  have c3 : w2.cell? ⟨g, 3, none⟩ = some (.int .i64 5) := krow_cell hown rfl
  have HW := Lib.hid (fwhole_any 5 (some ⟨g, 0, none⟩) 2 cap [(0, 4), (4, 5)] w2 rfl (row_spans hown) (by omega))
  have HB2 := Lib.hid (HB1.out.trans (hb2.mono HB1.out.size))
  rw [whole_two] at HW
  clear hown hb2 h0 ha hw1
  go_wp2_with fail
  refine HW.out.mono ?_
  rintro e w3 ⟨rfl, hb3⟩
  have HB3 := Lib.hid (HB2.out.trans (hb3.mono HB2.out.size))
  clear hb3
  go_wp2_with fail
  go_ret
  exact ⟨rfl, HB3.out⟩
end Go.Proofs.Ytcikdndkingegaa
