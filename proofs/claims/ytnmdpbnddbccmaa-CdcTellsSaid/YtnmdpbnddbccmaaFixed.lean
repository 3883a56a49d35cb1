/-
  Package fixed's calls, and the document's own Fixed and Whole. No statement is proved here.
-/
import Derived.Test.YtnmdpbnddbccmaaFixedPure
import Derived.Test.YtnmdpbnddbccmaaSpanMark
import Derived.Test.YtnmdpbnddbccmaaShelf
namespace Go.Proofs.Ytnmdpbnddbccmaa
open Go.RowKit

theorem spans_get {l : List (Int × Int)} {n j : Nat} (hn : l.length = n) (h : j < n) : ∃ a b, l[j]? = some (a, b) := ⟨(l[j]'(by omega)).1, (l[j]'(by omega)).2, List.getElem?_eq_getElem _⟩

set_option maxRecDepth 100000 in
set_option maxHeartbeats 2000000 in
theorem rwhole_any (n : Int) (A : Option Addr) (m c : Nat) (l : List (Int × Int)) (w : World) (hm : l.length = m) (hx : Spans w w.heap.size A l) (hl : m ≤ 1000000) :
    Calls Try.prog 23 #[.int .i64 n, .slice A m c] w fun e w' => e = .returned (.bool (wholeB n l)) ∧ w = w' := by
  have HX := Lib.hid hx
  have HM := Lib.hid hm
  clear hx hm
  go_enter Try.func23, Try.ntmps23
  go_wp2_with fail
  go_loopw [5, 6] (fun p i wr => ∃ (j : Nat) (a : Int), j ≤ m ∧ i = .int .i64 j ∧ p = .int .i64 a ∧ wholeEnd (l.take j) = some a ∧ w = wr) (fun _ i _ => m - (intOf i).toNat)
  case atStart => exact ⟨0, 0, Nat.zero_le _, rfl, rfl, rfl, rfl⟩
  case round =>
    obtain ⟨j, a, hj, rfl, rfl, hwe, rfl⟩ := hrel
    by_cases hlt : j < m
    · obtain ⟨x0, x1, hxj⟩ := spans_get HM.out hlt
      obtain ⟨b, off, hA, hbB, hc⟩ := HX.out (by rw [HM.out]; omega)
      obtain ⟨e0, e1⟩ := hc j _ hxj
      simp only at e0 e1
      have HS := Lib.hid (wholeEnd_snoc hxj)
      have HWE := Lib.hid hwe
      clear hxj hc hwe
      subst hA
      by_cases hok : x0 = a ∧ ¬ x1 ≤ a
      · obtain ⟨rfl, hx1⟩ := hok
        have HE : Hid (wholeEnd (l.take (j + 1)) = some x1) := Lib.hid (by rw [HS.out, HWE.out]; unfold wstep; simp only [Option.bind_some]; rw [if_neg (by omega)])
        have hx2 : x0 < x1 := by omega
        go_wp2_with fail
        go_roundw
        case rel => exact ⟨j + 1, x1, by omega, by go_num, rfl, HE.out, trivial⟩
        case measure => simp [intOf]; omega
      · have HE : Hid (wholeB n l = false) := Lib.hid (by
          have : wholeEnd (l.take (j + 1)) = none := by rw [HS.out, HWE.out]; unfold wstep; simp only [Option.bind_some]; rw [if_pos (by omega)]
          unfold wholeB
          rw [wholeEnd_none this]
          rfl)
        by_cases h0 : x0 = a
        · subst h0
          have hx1 : x1 ≤ x0 := by omega
          go_wp2_with fail
          go_ret
          exact ⟨by rw [HE.out]; rfl, rfl⟩
        · go_wp2_with fail
          go_ret
          exact ⟨by rw [HE.out]; rfl, rfl⟩
    · obtain rfl : j = m := by omega
      have htk : l.take j = l := List.take_of_length_le (by rw [HM.out]; exact Nat.le_refl _)
      rw [htk] at hwe
      have HE : Hid (wholeB n l = (a == n)) := Lib.hid (by unfold wholeB; rw [hwe]; rfl)
      clear hwe htk
      go_wp2_with fail
      go_ret
      exact ⟨by rw [HE.out]; rfl, rfl⟩
theorem join_bad {s : ByteArray} {l : List (Int × Int)} {j : Nat} {x : Int × Int} (h : l[j]? = some x) (hx : okSp s.size x = false) : l.all (okSp s.size) = false := by
  rw [List.all_eq_false]
  exact ⟨x, List.mem_of_getElem? h, by simp [hx]⟩

end Go.Proofs.Ytnmdpbnddbccmaa
