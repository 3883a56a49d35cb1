/-
  The document's own Among and Drop: is a number there, all but one. No statement is proved here.
-/
import Derived.Test.YtbaanoomilohhaaGreatRoomMake
namespace Go.Proofs.YtbaanoomilohhaaGreat
open Go.RowKit

set_option maxRecDepth 100000 in
set_option maxHeartbeats 2000000 in
theorem ramong_any (x : Int) (A : Option Addr) (c n : Nat) (l : List Int) (w : World) (hn : l.length = n) (hx : Ints w w.heap.size A l) (hb : n ≤ 1000000) :
    Calls Tryz.prog 10 #[.slice A n c, .int .i64 x] w fun e w' => e = .returned (.bool (decide (x ∈ l))) ∧ w' = w := by
  have HX := Lib.hid hx
  have HM := Lib.hid hn
  clear hx hn
  go_enter Tryz.func10, Tryz.ntmps10
  go_wp2_with fail
  go_loopw [5] (fun i wr => ∃ (j : Nat), j ≤ n ∧ i = .int .i64 j ∧ x ∉ l.take j ∧ wr = w) (fun i _ => n - (intOf i).toNat)
  case atStart => exact ⟨0, Nat.zero_le _, rfl, by simp, rfl⟩
  case round =>
    obtain ⟨j, hj, rfl, hno, rfl⟩ := hrel
    have HNO := Lib.hid hno
    clear hno
    by_cases hlt : j < n
    · have hjl : j < l.length := by rw [HM.out]; exact hlt
      obtain ⟨b, off, hA, hbB, hc⟩ := HX.out (by omega)
      obtain ⟨y, hy⟩ : ∃ y, y = l[j] := ⟨_, rfl⟩
      have hyj : l[j]? = some y := by rw [hy]; exact List.getElem?_eq_getElem hjl
      have E2 : Hid (l.take (j + 1) = l.take j ++ [y]) := Lib.hid (by rw [List.take_add_one, hyj]; rfl)
      have HYM := Lib.hid (List.mem_of_getElem? hyj)
      have d0 := hc j y hyj
      subst hA
      have hjI : (j : Int) < (n : Int) := by omega
      clear hy hyj hc hjl
      by_cases hxy : y = x
      · subst hxy
        go_wp2_with fail
        go_ret
        exact ⟨by rw [decide_eq_true HYM.out]; rfl, rfl⟩
      · have HNE := Lib.hid hxy
        go_wp2_with fail
        go_roundw
        case rel =>
          refine ⟨j + 1, by omega, by go_num, fun h => ?_, by first | rfl | trivial⟩
          rw [E2.out] at h
          rcases List.mem_append.1 h with h | h
          · exact HNO.out h
          · exact HNE.out (List.mem_singleton.1 h).symm
        case measure => simp [intOf]; omega
    · obtain rfl : j = n := by omega
      have htk : l.take j = l := List.take_of_length_le (by rw [HM.out]; exact Nat.le_refl _)
      rw [htk] at HNO
      clear htk
      go_wp2_with fail
      go_ret
      exact ⟨by rw [decide_eq_false HNO.out]; rfl, rfl⟩

set_option maxRecDepth 100000 in
set_option maxHeartbeats 2000000 in
theorem rdrop_any (x : Int) (A : Option Addr) (c n : Nat) (l : List Int) (w : World) (hn : l.length = n) (hx : Ints w w.heap.size A l) (hb : n ≤ 1000000) :
    Calls Tryz.prog 11 #[.slice A n c, .int .i64 x] w fun e w' => ∃ A' c', e = .returned (.slice A' (dropL x l).length c') ∧ w'.ownsRow w.heap.size 3 1 (.slice A' (dropL x l).length c') (dropL x l).length ((dropL x l).map (Value.int .i64)) ∧ Below w.heap.size w w' := by
  obtain ⟨i0, hi, hz0, hz1, hz2⟩ := info_parts hints_info
  have HX := Lib.hid hx
  have HM := Lib.hid hn
  clear hx hn
  go_enter Tryz.func11, Tryz.ntmps11
  go_wp2_with fail
  go_loopw [5, 6] (fun v i wr => ∃ (j : Nat) (xs : List Int), j ≤ n ∧ i = .int .i64 j ∧ xs = dropL x (l.take j) ∧ xs.length ≤ j ∧ wr.ownsRow w.heap.size 3 1 v xs.length (xs.map (Value.int .i64)) ∧ Below w.heap.size w wr) (fun _ i _ => n - (intOf i).toNat)
  case atStart => exact ⟨0, [], Nat.zero_le _, rfl, rfl, Nat.le_refl _, World.ownsRow_nil _ _ _ _, Below.refl _ _⟩
  case round =>
    obtain ⟨j, xs, hj, rfl, hxs, hxl, hrow, hbr⟩ := hrel
    have HXS := Lib.hid hxs
    have HRW := Lib.hid hrow
    have HBR := Lib.hid hbr
    clear hxs hrow hbr
    by_cases hlt : j < n
    · have hjl : j < l.length := by rw [HM.out]; exact hlt
      obtain ⟨b, off, hA, hbB, hc⟩ := HX.out (by omega)
      obtain ⟨y, hy⟩ : ∃ y, y = l[j] := ⟨_, rfl⟩
      have hyj : l[j]? = some y := by rw [hy]; exact List.getElem?_eq_getElem hjl
      have E2 : Hid (dropL x (l.take (j + 1)) = if y ≠ x then xs ++ [y] else xs) := Lib.hid (by
        rw [List.take_add_one, hyj]
        unfold dropL
        rw [List.filter_append, HXS.out]
        by_cases e : y = x
        · rw [if_neg (by simp [e])]
          simp [e, dropL]
        · rw [if_pos e]
          simp [e, dropL])
      have d0 : wr.cell? ⟨b, off + j, none⟩ = some (.int .i64 y) := (HBR.out.cell (p := ⟨b, off + j, none⟩) hbB).trans (hc j y hyj)
      subst hA
      have hjI : (j : Int) < (n : Int) := by omega
      clear hy hyj hc hjl
      by_cases hxy : y = x
      · rw [if_neg (by simp [hxy])] at E2
        subst hxy
        go_wp2_with fail
        go_roundw
        case rel => exact ⟨j + 1, xs, by omega, by go_num, E2.out.symm, by omega, HRW.out, HBR.out⟩
        case measure => simp [intOf]; omega
      · rw [if_pos hxy] at E2
        go_wp2_with (at_builtin; refine wpList_append_lies _ rfl (.tmp 19) (.tmp 24) 22 rfl w.heap.size 3 i0 (.int .i64 0) 1 8 Tryz.underlying22 hi hz0 hz1 hz2 rfl (by omega) _ xs.length _ rfl (HRW.out.alloc _) ⟨wr.heap.size, 0, none⟩ 1 1 [.int .i64 y] rfl rfl ?c1 ?c2 (by omega) (by unfold maxLen; omega) (by omega) (by have := HBR.out.size; simp; omega) _ rfl ?_)
        case c1 =>
          intro a u ha
          match a, ha with
          | 0, ha => simp at ha; subst ha; simp [Addr.add]
        case c2 => intro u hu; simp at hu; subst hu; rfl
        intro g2 cap w3 hown hg hor hlt1
        have HB3 : Hid (Below w.heap.size w w3) := Lib.hid ((HBR.out.alloc HBR.out.size _).grown hg (by have := HBR.out.size; simp; omega) (fun q e => (HRW.out.lt q e).1))
        have HR3 : Hid (w3.ownsRow w.heap.size 3 1 (.slice (some ⟨g2, 0, none⟩) (xs.length + 1) cap) (xs.length + 1) ((xs ++ [y]).map (Value.int .i64))) := Lib.hid (by rw [List.map_append]; exact hown)
        clear hown hg hor hlt1
        go_wp2_with fail
        go_roundw
        case rel =>
          refine ⟨j + 1, xs ++ [y], by omega, by go_num, E2.out.symm, by simp; omega, ?_, HB3.out⟩
          rw [List.length_append]
          exact HR3.out
        case measure => simp [intOf]; omega
    · obtain rfl : j = n := by omega
      have htk : l.take j = l := List.take_of_length_le (by rw [HM.out]; exact Nat.le_refl _)
      rw [htk] at HXS
      obtain rfl : xs = dropL x l := HXS.out
      obtain ⟨p, cap, rfl⟩ : ∃ p cap, u5 = .slice p (dropL x l).length cap := by
        obtain ⟨p, cap, e, _⟩ := row_slice' HRW.out
        exact ⟨p, cap, e⟩
      clear htk
      go_wp2_with fail
      go_ret
      exact ⟨_, _, rfl, HRW.out, HBR.out⟩
end Go.Proofs.YtbaanoomilohhaaGreat
