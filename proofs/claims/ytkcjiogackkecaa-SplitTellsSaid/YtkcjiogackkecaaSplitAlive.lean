/-
  The statements' first calls of package split. No statement is proved here.
-/
import Derived.Test.YtkcjiogackkecaaSplitAgain
import Derived.Test.YtkcjiogackkecaaCdcBoundsWalk
namespace Go.Proofs.Ytkcjiogackkecaa
open Go.RowKit

theorem ofV_one : ofV 1 = #[.iface 44 (.agg #[.int .i64 64]), .int .i64 0] := rfl
theorem ofV_two : ofV 2 = #[.iface 42 (.agg #[.int .i64 32, .int .i64 64, .int .i64 128, .int .i64 7, .int .i64 5]), .int .i64 0] := rfl
theorem cut_ab : cutL e64 0 [97, 98] = [(0, 2)] := by
  have h1 : firstL e64 [97, 98] = 2 := by rw [e64_first]; rfl
  rw [cutL_cons e64 0 [97, 98] (by decide), h1]
  show _ :: cutL e64 _ [] = _
  rw [cutL_nil]
  rfl
theorem again_ab : againL e64 [(0, 2)] [97, 98] 2 2 0 = ([(0, 2)], 0) := by
  have h1 : mayB [(0, 2)] ([97, 98] : List UInt8).length 2 2 0 = true := by decide
  have h2 : stayN [(0, 2)] 2 true = 1 := by decide
  unfold againL
  rw [if_pos h1, show (decide ((2 : Int) = 2) && decide ((0 : Int) = 0)) = true from rfl, h2]
  show ([((0 : Int), (2 : Int))] ++ (mendL e64 [(0, 2)] 2 0 2 []).1, (mendL e64 [(0, 2)] 2 0 2 []).2) = _
  rw [mendL_nil]
  rfl
theorem first_ab : firstL dfl [97, 98] = 2 := by
  unfold firstL
  rw [if_pos dfl_ok, if_pos (by decide)]
  rfl
set_option maxRecDepth 100000 in
set_option maxHeartbeats 4000000 in
theorem alive15_any (w : World) : Calls Try.prog 10 #[] w fun e w' => e = .returned (.bool true) ∧ Below w.heap.size w w' := by
  have HO1 : Hid (∀ w', Calls Try.prog 12 #[.int .i64 1] w' fun e w'' => e = .returned (.tuple #[.iface 44 (.agg #[.int .i64 64]), .int .i64 0]) ∧ Below w'.heap.size w' w'') := Lib.hid (fun w' => by have h := of_any 1 w'; rw [ofV_one] at h; exact h)
  have HO2 : Hid (∀ w', Calls Try.prog 12 #[.int .i64 2] w' fun e w'' => e = .returned (.tuple #[.iface 42 (.agg #[.int .i64 32, .int .i64 64, .int .i64 128, .int .i64 7, .int .i64 5]), .int .i64 0]) ∧ Below w'.heap.size w' w'') := Lib.hid (fun w' => by have h := of_any 2 w'; rw [ofV_two] at h; exact h)
  have hq1 : ∀ (w : World), (binOp .eql 29 (.iface 44 (.agg #[.int .i64 64])) .nilIface).run Try.prog w = .ok (.bool false) w := fun w => by rfl
  have hq2 : ∀ (w : World), (binOp .eql 29 (.iface 42 (.agg #[.int .i64 32, .int .i64 64, .int .i64 128, .int .i64 7, .int .i64 5])) .nilIface).run Try.prog w = .ok (.bool false) w := fun w => by rfl
  have hmC := even_is.mC
  have hmN := even_is.mN
  have hmM := uneven_is.mN
  unfold dfl RuleN.val at hmM
  simp only at hmM
  have ecat : cats [(⟨#[97, 98]⟩ : ByteArray)] = [97, 98] := by decide
  have HCUT : Hid (∀ (w' : World) (p : Nat), Blk w' p 9 #[.string ⟨#[97, 98]⟩] → Calls Try.prog 21 #[.agg #[.int .i64 64], .slice (some ⟨p, 0, none⟩) 1 1] w' fun e w'' => ∃ q cap, e = .returned (.slice q 1 cap) ∧ w''.ownsRow w'.heap.size 36 2 (.slice q 1 cap) 1 (flatS [(0, 2)]) ∧ Below w'.heap.size w' w'') := Lib.hid (fun w' p hp => by
    have h := even_is.cut (some ⟨p, 0, none⟩) 1 1 [⟨#[97, 98]⟩] w' rfl (fun _ => ⟨p, 0, rfl, hp.lt, fun j z hz => by
      cases j with
      | zero => simp at hz; subst hz; exact hp.cell 0
      | succ j => simp at hz⟩) (by omega) (Nat.le_refl _) (by rw [ecat]; decide)
    rw [ecat, cut_ab] at h
    exact h)
  have HN1 : Hid (∀ w', Calls Try.prog 23 #[.agg #[.int .i64 64], .string ⟨#[97, 98]⟩] w' fun e w'' => e = .returned (.int .i64 2) ∧ Below w'.heap.size w' w'') := Lib.hid (fun w' => evnext_any 64 ⟨#[97, 98]⟩ w')
  have HN2 : Hid (∀ w', Calls Try.prog 17 #[.agg #[.int .i64 32, .int .i64 64, .int .i64 128, .int .i64 7, .int .i64 5], .string ⟨#[97, 98]⟩] w' fun e w'' => e = .returned (.int .i64 2) ∧ Below w'.heap.size w' w'') := Lib.hid (fun w' => by
    have h := unnext_any dfl ⟨#[97, 98]⟩ w' (by decide)
    rw [show (⟨#[97, 98]⟩ : ByteArray).data.toList = [97, 98] from rfl, first_ab] at h
    exact h)
  go_enter Try.func10, Try.ntmps10
  go_wp2_with fail
  refine (HO1.out _).mono ?_
  rintro e w1 ⟨rfl, hb1⟩
  have HB1 := Lib.hid hb1
  clear hb1
  go_wp2_with fail
  refine (HO2.out _).mono ?_
  rintro e w2 ⟨rfl, hb2⟩
  have HB2 := Lib.hid (HB1.out.trans (hb2.mono HB1.out.size))
  clear hb2
  go_wp2_with fail
  have hba : Below w2.heap.size w2 (w2.alloc (.cells #[.string ⟨#[97, 98]⟩] 9)) := (Below.refl _ _).alloc (Nat.le_refl _) _
  refine (HCUT.out (w2.alloc (.cells #[.string ⟨#[97, 98]⟩] 9)) w2.heap.size (Blk.new w2 _ _)).mono ?_
  rintro e w3 ⟨q, cap, rfl, hown3, hb3⟩
  have HB3 := Lib.hid ((HB2.out.trans (hba.mono HB2.out.size)).trans (hb3.mono (Nat.le_trans HB2.out.size hba.size)))
  have HOW3 := Lib.hid hown3
  have hsp3 := row_spans (l := [(0, 2)]) hown3
  obtain ⟨q2, cap2, e2, hcap, -, hqn, -⟩ := krow_form hown3
  injection e2 with e2 _ e3
  subst e2 e3
  have hag := again_any even_is q 1 cap [(0, 2)] ⟨#[97, 98]⟩ 2 2 0 w3 rfl hsp3 (by omega) hcap (fun h => absurd (hqn h) (by decide)) (by decide) (by omega) (by omega) (by omega) (by simp)
  rw [show (⟨#[97, 98]⟩ : ByteArray).data.toList = [97, 98] from rfl, again_ab] at hag
  have HAG := Lib.hid hag
  clear hown3 hb3 hba hcap hqn hag hsp3
  go_wp2_with fail
  refine HAG.out.mono ?_
  rintro e w4 ⟨p4, cap4, rfl, hown4, hb4⟩
  have HB4 := Lib.hid (HB3.out.trans (hb4.mono HB3.out.size))
  have HOW4 := Lib.hid hown4
  have HO34 := Lib.hid (row_below HOW3.out hb4)
  clear hown4 hb4
  go_wp2_with fail
  refine (HN1.out _).mono ?_
  rintro e w5 ⟨rfl, hb5⟩
  have HB5 := Lib.hid (HB4.out.trans (hb5.mono HB4.out.size))
  have HO5a := Lib.hid (row_below HOW4.out hb5)
  have HO5b := Lib.hid (row_below HO34.out hb5)
  clear hb5
  go_wp2_with fail
  refine (HN2.out _).mono ?_
  rintro e w6 ⟨rfl, hb6⟩
  have HB6 := Lib.hid (HB5.out.trans (hb6.mono HB5.out.size))
  have HO6a := Lib.hid (row_below HO5a.out hb6)
  have HO6b := Lib.hid (row_below HO5b.out hb6)
  clear hb6
  have HSS := Lib.hid (ssame_any p4 q 1 cap4 cap [(0, 2)] w6 rfl (row_spans (l := [(0, 2)]) HO6a.out) (row_spans (l := [(0, 2)]) HO6b.out) (by omega))
  go_wp2_with fail
  refine HSS.out.mono ?_
  rintro e w7 ⟨rfl, nn, rfl⟩
  go_wp2_with fail
  go_ret
  exact ⟨rfl, HB6.out.trans ((below_dn w6 nn).mono HB6.out.size)⟩
end Go.Proofs.Ytkcjiogackkecaa
