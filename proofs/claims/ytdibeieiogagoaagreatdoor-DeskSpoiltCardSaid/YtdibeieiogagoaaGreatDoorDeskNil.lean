/-
  Package desk: the calls of a nil Desk. No statement is proved here.
-/
import Derived.Test.YtdibeieiogagoaaGreatDoorDeskAwake
namespace Go.Proofs.YtdibeieiogagoaaGreatDoor
open Go.RowKit
set_option maxRecDepth 100000 in
theorem kget_nil (t : Int) (w : World) : Calls Tryz.prog 37 #[.pointer none, .int .i64 t] w fun e w' => e = .returned (.tuple #[.string ⟨#[]⟩, .int .i64 1]) ∧ w' = w := by
  have HB := Lib.hid (kbad_nil w)
  go_enter Tryz.func37, Tryz.ntmps37
  go_wp2_with (go_at_call 29; refine HB.out.mono ?_; rintro e w1 ⟨rfl, rfl⟩)
  go_ret2
  exact ⟨rfl, rfl⟩
set_option maxRecDepth 100000 in
theorem knew_nil (x : ByteArray) (w : World) : Calls Tryz.prog 16 #[.pointer none, .string x] w fun e w' => e = .returned (.tuple #[.int .i64 0, .int .i64 1]) ∧ w' = w := by
  have HB := Lib.hid (kbad_nil w)
  go_enter Tryz.func16, Tryz.ntmps16
  go_wp2_with (go_at_call 29; refine HB.out.mono ?_; rintro e w1 ⟨rfl, rfl⟩)
  go_ret2
  exact ⟨rfl, rfl⟩
set_option maxRecDepth 100000 in
theorem kset_nil (t : Int) (x : ByteArray) (w : World) : Calls Tryz.prog 15 #[.pointer none, .int .i64 t, .string x] w fun e w' => e = .returned (.int .i64 1) ∧ w' = w := by
  have HB := Lib.hid (kbad_nil w)
  go_enter Tryz.func15, Tryz.ntmps15
  go_wp2_with (go_at_call 29; refine HB.out.mono ?_; rintro e w1 ⟨rfl, rfl⟩)
  go_ret
  exact ⟨rfl, rfl⟩
set_option maxRecDepth 100000 in
theorem kdrop_nil (v : Value) (w : World) : Calls Tryz.prog 20 #[.pointer none, v] w fun e w' => e = .returned (.int .i64 1) ∧ w' = w := by
  have HB := Lib.hid (kbad_nil w)
  go_enter Tryz.func20, Tryz.ntmps20
  go_wp2_with (go_at_call 29; refine HB.out.mono ?_; rintro e w1 ⟨rfl, rfl⟩)
  go_ret
  exact ⟨rfl, rfl⟩
set_option maxRecDepth 100000 in
theorem kkeep_nil (v : Value) (w : World) : Calls Tryz.prog 22 #[.pointer none, v] w fun e w' => e = .returned (.int .i64 1) ∧ w' = w := by
  have HB := Lib.hid (kbad_nil w)
  go_enter Tryz.func22, Tryz.ntmps22
  go_wp2_with (go_at_call 29; refine HB.out.mono ?_; rintro e w1 ⟨rfl, rfl⟩)
  go_ret
  exact ⟨rfl, rfl⟩
set_option maxRecDepth 100000 in
theorem ksync_nil (w : World) : Calls Tryz.prog 26 #[.pointer none] w fun e w' => e = .returned (.int .i64 1) ∧ w' = w := by
  have HB := Lib.hid (kbad_nil w)
  go_enter Tryz.func26, Tryz.ntmps26
  go_wp2_with (go_at_call 29; refine HB.out.mono ?_; rintro e w1 ⟨rfl, rfl⟩)
  go_ret
  exact ⟨rfl, rfl⟩
set_option maxRecDepth 100000 in
theorem kpend_nil (w : World) : Calls Tryz.prog 63 #[.pointer none] w fun e w' => e = .returned (.slice none 0 0) ∧ w' = w := by
  go_enter Tryz.func63, Tryz.ntmps63
  go_wp2_with fail
  go_ret
  exact ⟨rfl, rfl⟩
set_option maxRecDepth 100000 in
theorem kdirty_nil (w : World) : Calls Tryz.prog 36 #[.pointer none] w fun e w' => e = .returned (.slice none 0 0) ∧ w' = w := by
  have HP := Lib.hid (kpend_nil w)
  go_enter Tryz.func36, Tryz.ntmps36
  go_wp2_with (go_at_call 63; refine HP.out.mono ?_; rintro e w1 ⟨rfl, rfl⟩)
  refine wp_loop_rounds 1 ?_
  rw [rounds_succ]
  go_wp2_with fail
  go_ret
  exact ⟨rfl, rfl⟩
end Go.Proofs.YtdibeieiogagoaaGreatDoor
