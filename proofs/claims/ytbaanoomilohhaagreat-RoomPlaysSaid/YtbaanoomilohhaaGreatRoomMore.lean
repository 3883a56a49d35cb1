/-
  Package room: made, copied, all in use, given back. No statement is proved here.
-/
import Derived.Test.YtbaanoomilohhaaGreatRoomLook
import Derived.Test.YtbaanoomilohhaaGreatRefPut
import Derived.Deep.AppendLies
namespace Go.Proofs.YtbaanoomilohhaaGreat
open Go.RowKit

theorem RoomTurns.refl {w : World} {g n : Nat} {H : List Int} (h : RoomAt w g n H) : RoomTurns w w g n H := ⟨h, by_refl _ _⟩
theorem RoomTurns.drewN {w w' : World} {g n : Nat} {H : List Int} (h : RoomTurns w w' g n H) (d : Nat) : RoomTurns w (w'.drewN d) g n H := ⟨h.room.drewN d, by_drewN h.by_ d⟩
theorem RoomTurns.trans {w w' w'' : World} {g n : Nat} {H H' : List Int} (h : RoomTurns w w' g n H) (k : RoomTurns w' w'' g n H') : RoomTurns w w'' g n H' := ⟨k.room, by_trans h.by_ k.by_⟩
theorem RoomTurns.below {w w' w'' : World} {g n : Nat} {H : List Int} (h : RoomTurns w w' g n H) (k : Below w'.heap.size w' w'') : RoomTurns w w'' g n H := ⟨h.room.below k, by_trans h.by_ (by_below k (Nat.le_refl _))⟩
theorem RoomTurns.cell {w w' : World} {g n : Nat} {H : List Int} (h : RoomTurns w w' g n H) {p : Addr} (hp : p.block < w.heap.size) (hne : p.block ≠ g) : w'.cell? p = w.cell? p :=
  World.cell?_of_block (h.by_.block _ hp (fun e => hne (Option.some.inj e)))
theorem RoomTurns.ints {w w' : World} {g n : Nat} {H : List Int} (h : RoomTurns w w' g n H) {A : Option Addr} {xs : List Int} (hx : Ints w w.heap.size A xs) (hne : ∀ a, A = some a → a.block ≠ g) : Ints w' w'.heap.size A xs := fun hp => by
  obtain ⟨b, off, e, hb, hc⟩ := hx hp
  exact ⟨b, off, e, Nat.lt_of_lt_of_le hb h.by_.size, fun j x hj => (h.cell (p := ⟨b, off + j, none⟩) hb (by have := hne _ e; exact this)).trans (hc j x hj)⟩
theorem RoomTurns.under {w0 w w' : World} {B g n : Nat} {H : List Int} (h : RoomTurns w w' g n H) (hb : Below B w0 w) (hg : B ≤ g) (hB : B ≤ w.heap.size) : Below B w0 w' :=
  ⟨h.by_.os.trans hb.os, h.by_.tape.trans hb.tape, h.by_.output.trans hb.output, Nat.le_trans hb.size h.by_.size, fun i hi => (h.by_.block i (by omega) (fun e => by have := Option.some.inj e; omega)).trans (hb.block i hi)⟩

set_option maxRecDepth 100000 in
set_option maxHeartbeats 2000000 in
theorem rall_any {w : World} {g n : Nat} {H : List Int} (h : RoomAt w g n H) : Calls Tryz.prog 14 #[.pointer (some ⟨g, 0, none⟩)] w fun e w' =>
    ∃ A c, e = .returned (.slice A H.length c) ∧ w'.ownsRow w.heap.size 3 1 (.slice A H.length c) H.length (H.map (Value.int .i64)) ∧ Below w.heap.size w w' := by
  obtain ⟨i0, hi, hz0, hz1, hz2⟩ := info_parts hints_info
  have hs := h.size
  have HS : Hid (∀ W, Below w.heap.size w W → Calls Tryz.prog 18 #[.pointer (some ⟨g, 0, none⟩)] W fun e w' => e = .returned (.int .i64 (n : Int)) ∧ w' = W) := Lib.hid (fun W hW => size_any (h.below hW))
  have HU : Hid (∀ (j : Nat) (W : World), Below w.heap.size w W → Calls Tryz.prog 19 #[.pointer (some ⟨g, 0, none⟩), .int .i64 (j : Int)] W fun e w' => e = .returned (.bool (inP H j)) ∧ ∃ d, w' = W.drewN d) := Lib.hid (fun j W hW => rused_any (j : Int) (h.below hW))
  have HA : Hid (((List.range n).filter (inP H)).map (fun i : Nat => (i : Int)) = H) := Lib.hid (all_list h.ok)
  obtain ⟨P, hP⟩ : ∃ P, P = inP H := ⟨_, rfl⟩
  rw [← hP] at HU HA
  clear h hP
  go_enter Tryz.func14, Tryz.ntmps14
  go_wp2_with fail
  refine (HS.out _ (Below.refl _ _)).mono ?_
  rintro e w1 ⟨rfl, rfl⟩
  go_wp2_with fail
  go_loopw [3, 7] (fun v i wr => ∃ (j : Nat) (xs : List Int), j ≤ n ∧ i = .int .i64 j ∧ xs = ((List.range j).filter P).map (fun i : Nat => (i : Int)) ∧ xs.length ≤ j ∧ wr.ownsRow w1.heap.size 3 1 v xs.length (xs.map (Value.int .i64)) ∧ Below w1.heap.size w1 wr) (fun _ i _ => n - (intOf i).toNat)
  case atStart => exact ⟨0, [], Nat.zero_le _, rfl, rfl, Nat.le_refl _, World.ownsRow_nil _ _ _ _, Below.refl _ _⟩
  case round =>
    obtain ⟨j, xs, hj, rfl, hxs, hxl, hrow, hbr⟩ := hrel
    have HX := Lib.hid hxs
    have HRW := Lib.hid hrow
    have HBR := Lib.hid hbr
    clear hxs hrow hbr
    by_cases hlt : j < n
    · have hjI : (j : Int) < (n : Int) := by omega
      have HC := Lib.hid (HU.out j _ HBR.out)
      obtain ⟨r, hr⟩ : ∃ r, r = P j := ⟨_, rfl⟩
      rw [← hr] at HC
      have HN : Hid (((List.range (j + 1)).filter P).map (fun i : Nat => (i : Int)) = if r = true then xs ++ [(j : Int)] else xs) := Lib.hid (by
        rw [List.range_succ, List.filter_append, List.map_append, ← HX.out, hr]
        simp only [List.filter_cons, List.filter_nil]
        split <;> simp)
      clear hr
      cases r with
      | true =>
        rw [if_pos rfl] at HN
        go_wp2_with fail
        refine HC.out.mono ?_
        rintro e w2 ⟨rfl, d, rfl⟩
        have HB2 : Hid (Below w1.heap.size w1 (wr.drewN d)) := Lib.hid ⟨HBR.out.os, HBR.out.tape, HBR.out.output, HBR.out.size, HBR.out.block⟩
        have HR2 : Hid ((wr.drewN d).ownsRow w1.heap.size 3 1 u3 xs.length (xs.map (Value.int .i64))) := Lib.hid (row_kept' HRW.out fun _ _ => rfl)
        obtain ⟨w2, hw2⟩ : ∃ w2, w2 = wr.drewN d := ⟨_, rfl⟩
        rw [← hw2] at HB2 HR2
        rw [← hw2]
        clear hw2
        go_wp2_with (at_builtin; refine wpList_append_lies _ rfl (.tmp 13) (.tmp 15) 22 rfl w1.heap.size 3 i0 (.int .i64 0) 1 8 Tryz.underlying22 hi hz0 hz1 hz2 rfl (by omega) _ xs.length _ rfl (HR2.out.alloc _) ⟨w2.heap.size, 0, none⟩ 1 1 [.int .i64 j] rfl rfl ?c1 ?c2 (by omega) (by unfold maxLen; omega) (by omega) (by have := HB2.out.size; simp; omega) _ rfl ?_)
        case c1 =>
          intro a u ha
          match a, ha with
          | 0, ha => simp at ha; subst ha; simp [Addr.add]
        case c2 => intro u hu; simp at hu; subst hu; rfl
        intro g2 cap w3 hown hg hor hlt1
        have HB3 : Hid (Below w1.heap.size w1 w3) := Lib.hid ((HB2.out.alloc HB2.out.size _).grown hg (by have := HB2.out.size; simp; omega) (fun q e => (HR2.out.lt q e).1))
        have HR3 : Hid (w3.ownsRow w1.heap.size 3 1 (.slice (some ⟨g2, 0, none⟩) (xs.length + 1) cap) (xs.length + 1) ((xs ++ [(j : Int)]).map (Value.int .i64))) := Lib.hid (by rw [List.map_append]; exact hown)
        clear hown hg hor hlt1
        go_wp2_with fail
        go_roundw
        case rel =>
          refine ⟨j + 1, xs ++ [(j : Int)], by omega, by go_num, HN.out.symm, by simp; omega, ?_, HB3.out⟩
          rw [List.length_append]
          exact HR3.out
        case measure => simp [intOf]; omega
      | false =>
        rw [if_neg (by decide)] at HN
        go_wp2_with fail
        refine HC.out.mono ?_
        rintro e w2 ⟨rfl, d, rfl⟩
        have HB2 : Hid (Below w1.heap.size w1 (wr.drewN d)) := Lib.hid ⟨HBR.out.os, HBR.out.tape, HBR.out.output, HBR.out.size, HBR.out.block⟩
        have HR2 : Hid ((wr.drewN d).ownsRow w1.heap.size 3 1 u3 xs.length (xs.map (Value.int .i64))) := Lib.hid (row_kept' HRW.out fun _ _ => rfl)
        obtain ⟨w2, hw2⟩ : ∃ w2, w2 = wr.drewN d := ⟨_, rfl⟩
        rw [← hw2] at HB2 HR2
        rw [← hw2]
        clear hw2
        go_wp2_with fail
        go_roundw
        case rel => exact ⟨j + 1, xs, by omega, by go_num, HN.out.symm, by omega, HR2.out, HB2.out⟩
        case measure => simp [intOf]; omega
    · obtain rfl : j = n := by omega
      have hxe : xs = H := by rw [HX.out, HA.out]
      subst hxe
      obtain ⟨p, cap, rfl⟩ : ∃ p cap, u3 = .slice p xs.length cap := by
        obtain ⟨p, cap, e, _⟩ := row_slice' HRW.out
        exact ⟨p, cap, e⟩
      go_wp2_with fail
      go_ret
      exact ⟨_, _, rfl, HRW.out, HBR.out⟩
end Go.Proofs.YtbaanoomilohhaaGreat
