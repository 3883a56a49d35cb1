/-
  Package split: may old be, a span looked for among spans in order, spans cloned. No statement is proved here.
-/
import Derived.Test.YtkcjiogackkecaaSplitPure
import Derived.Test.YtkcjiogackkecaaCdcAlive
import Derived.Test.YtkcjiogackkecaaRowMore
import Derived.Deep.AppendLies
namespace Go.Proofs.Ytkcjiogackkecaa
open Go.RowKit

set_option maxRecDepth 100000 in
set_option maxHeartbeats 1000000 in
theorem evnext_any (n : Int) (s : ByteArray) (w : World) :
    Calls Try.prog 23 #[.agg #[.int .i64 n], .string s] w fun e w' => e = .returned (.int .i64 (max 0 (min n (s.size : Int)))) ∧ Below w.heap.size w w' := by
  have HB1 : Hid (Below w.heap.size w (w.alloc (.cells #[.int .i64 n] 44))) := Lib.hid ((Below.refl _ _).alloc (Nat.le_refl _) _)
  go_enter Try.func23, Try.ntmps23
  go_wp2_with fail
  go_ret
  exact ⟨by simp, HB1.out⟩
set_option maxRecDepth 100000 in
set_option maxHeartbeats 1000000 in
theorem compare_any (x y : Int) (w : World) :
    Calls Try.prog 103 #[.int .i64 x, .int .i64 y] w fun e w' => e = .returned (.int .i64 (if x < y then -1 else if y < x then 1 else 0)) ∧ w' = w := by
  rcases Int.lt_trichotomy x y with h | h | h
  · rw [if_pos h]
    go_enter Try.func103, Try.ntmps103
    go_wp2
    go_ret
    exact ⟨rfl, rfl⟩
  · subst h
    rw [if_neg (by omega), if_neg (by omega)]
    go_enter Try.func103, Try.ntmps103
    go_wp2
    go_ret
    exact ⟨rfl, rfl⟩
  · rw [if_neg (by omega), if_pos h]
    have h2 : ¬ x < y := by omega
    go_enter Try.func103, Try.ntmps103
    go_wp2
    go_ret
    exact ⟨rfl, rfl⟩
set_option maxRecDepth 100000 in
set_option maxHeartbeats 1000000 in
theorem begins_any (a b p : Int) (w : World) :
    Calls Try.prog 83 #[.agg #[.int .i64 a, .int .i64 b], .int .i64 p] w fun e w' => e = .returned (.int .i64 (if a < p then -1 else if p < a then 1 else 0)) ∧ Below w.heap.size w w' := by
  have HB1 : Hid (Below w.heap.size w (w.alloc (.cells #[.int .i64 a, .int .i64 b] 36))) := Lib.hid ((Below.refl _ _).alloc (Nat.le_refl _) _)
  obtain ⟨q, hq⟩ : ∃ q : Int, q = (if a < p then -1 else if p < a then 1 else 0) := ⟨_, rfl⟩
  have HC := Lib.hid (compare_any a p)
  rw [← hq] at HC ⊢
  clear hq
  go_enter Try.func83, Try.ntmps83
  go_wp2_with fail
  refine (HC.out _).mono ?_
  rintro e w2 ⟨rfl, rfl⟩
  go_wp2_with fail
  go_ret
  exact ⟨rfl, HB1.out⟩
set_option maxRecDepth 100000 in
set_option maxHeartbeats 1000000 in
theorem evcut_any (n : Int) (A : Option Addr) (m c : Nat) (xs : List ByteArray) (w : World) (hn : -9223372036854775808 ≤ n ∧ n ≤ 9223372036854775807) (hm : xs.length = m) (hx : Txts w w.heap.size A xs) (hl : m ≤ 1000000) (hs : (cats xs).length ≤ 1000000) :
    Calls Try.prog 21 #[.agg #[.int .i64 n], .slice A m c] w fun e w' => ∃ p cap, e = .returned (.slice p (cutS n (cats xs).length).length cap) ∧ w'.ownsRow w.heap.size 36 2 (.slice p (cutS n (cats xs).length).length cap) (cutS n (cats xs).length).length (flatS (cutS n (cats xs).length)) ∧ Below w.heap.size w w' := by
  have HB1 : Hid (Below w.heap.size w (w.alloc (.cells #[.int .i64 n] 44))) := Lib.hid ((Below.refl _ _).alloc (Nat.le_refl _) _)
  have HC := Lib.hid (fcut_any n A m c xs (w.alloc (.cells #[.int .i64 n] 44)) hn hm ((hx.below HB1.out).more HB1.out.size) hl hs)
  clear hx hm hl hs hn
  go_enter Try.func21, Try.ntmps21
  go_wp2_with fail
  refine HC.out.mono ?_
  rintro e w2 ⟨p, cap, rfl, hown, hb⟩
  have HO := Lib.hid (row_lower hown HB1.out.size)
  have HB2 := Lib.hid (HB1.out.trans (hb.mono HB1.out.size))
  clear hown hb
  go_wp2_with fail
  go_ret
  exact ⟨p, cap, rfl, HO.out, HB2.out⟩
set_option maxRecDepth 100000 in
set_option maxHeartbeats 1000000 in
theorem unnext_any (R : RuleN) (s : ByteArray) (w : World) (hs : s.size ≤ 140737488351232) :
    Calls Try.prog 17 #[R.val, .string s] w fun e w' => e = .returned (.int .i64 (firstL R s.data.toList : Int)) ∧ Below w.heap.size w w' := by
  obtain ⟨F, hF⟩ : ∃ F, F = firstL R s.data.toList := ⟨_, rfl⟩
  have HF := Lib.hid (fun w' => cfirst_any R s w' hs)
  rw [← hF] at HF ⊢
  clear hF hs
  obtain ⟨a, b, c, d, e⟩ := R
  have HB1 : Hid (Below w.heap.size w (w.alloc (.cells #[.int .i64 a, .int .i64 b, .int .i64 c, .int .i64 d, .int .i64 e] 42))) := Lib.hid ((Below.refl _ _).alloc (Nat.le_refl _) _)
  unfold RuleN.val at HF ⊢
  simp only at HF ⊢
  go_enter Try.func17, Try.ntmps17
  go_wp2_with fail
  refine (HF.out _).mono ?_
  rintro e w2 ⟨rfl, hb⟩
  have HB2 := Lib.hid (HB1.out.trans (hb.mono HB1.out.size))
  clear hb
  go_wp2_with fail
  go_ret
  exact ⟨rfl, HB2.out⟩

/-- The rule of a form, and its cutter. -/
def ruleOf (gen : Int) : RuleN := if gen = 1 then e64 else dfl
theorem ruleOf_ok (gen : Int) : (ruleOf gen).ok = true := by
  unfold ruleOf
  split
  · exact e64_ok
  · exact dfl_ok
def cutterV (gen : Int) : Value := if gen = 1 then .iface 44 (.agg #[.int .i64 64]) else .iface 42 dfl.val
def ofV (gen : Int) : Array Value := if 1 ≤ gen ∧ gen ≤ 3 then #[cutterV gen, .int .i64 0] else #[.nilIface, .int .i64 1]
theorem ofV_in {gen : Int} (h : 1 ≤ gen ∧ gen ≤ 3) : ofV gen = #[cutterV gen, .int .i64 0] := if_pos h
theorem ofV_out {gen : Int} (h : ¬ (1 ≤ gen ∧ gen ≤ 3)) : ofV gen = #[.nilIface, .int .i64 1] := if_neg h
set_option maxRecDepth 100000 in
set_option maxHeartbeats 1000000 in
theorem of_any (gen : Int) (w : World) :
    Calls Try.prog 12 #[.int .i64 gen] w fun e w' => e = .returned (.tuple (ofV gen)) ∧ Below w.heap.size w w' := by
  have HD := Lib.hid default_any
  by_cases h1 : gen = 1
  · subst h1
    rw [ofV_in (by omega), cutterV, if_pos rfl]
    go_enter Try.func12, Try.ntmps12
    go_wp2_with fail
    go_ret2
    exact ⟨rfl, Below.refl _ _⟩
  · by_cases h2 : gen = 2
    · subst h2
      rw [ofV_in (by omega), cutterV, if_neg (by omega)]
      go_enter Try.func12, Try.ntmps12
      go_wp2_with fail
      refine (HD.out _).mono ?_
      rintro e w2 ⟨rfl, hb⟩
      have HB := Lib.hid hb
      clear hb
      go_wp2_with fail
      go_ret2
      exact ⟨rfl, HB.out⟩
    · by_cases h3 : gen = 3
      · subst h3
        rw [ofV_in (by omega), cutterV, if_neg (by omega)]
        go_enter Try.func12, Try.ntmps12
        go_wp2_with fail
        refine (HD.out _).mono ?_
        rintro e w2 ⟨rfl, hb⟩
        have HB := Lib.hid hb
        clear hb
        go_wp2_with fail
        go_ret2
        exact ⟨rfl, HB.out⟩
      · rw [ofV_out (by omega)]
        go_enter Try.func12, Try.ntmps12
        go_wp2_with fail
        go_ret2
        exact ⟨rfl, Below.refl _ _⟩
set_option maxRecDepth 100000 in
set_option maxHeartbeats 1000000 in
theorem rrule_var {W : World} {b : Nat} {a1 a2 a3 a4 a5 : Value} (hb : Blk W b 40 #[a1, a2, a3, a4, a5]) :
    (loadVar 40 ⟨b, 0, none⟩).run Try.prog W = .ok (.agg #[a1, a2, a3, a4, a5]) W :=
  run_var_part (off := 0) hb (fun j v h => by rw [Nat.zero_add]; exact h) (fun w => by kernel_rfl) (fun w => by kernel_rfl)
set_option maxRecDepth 100000 in
set_option maxHeartbeats 1000000 in
theorem rdefault_any (w : World) : Calls Try.prog 33 #[] w fun e w' => e = .returned dfl.val ∧ Below w.heap.size w w' := by
  go_enter Try.func33, Try.ntmps33
  go_wp2_with fail
  refine ret_cell rfl rfl (rrule_var (Blk.new w _ _)) rfl ?_
  exact ⟨rfl, (Below.refl _ _).alloc (Nat.le_refl _) _⟩
set_option maxRecDepth 100000 in
set_option maxHeartbeats 1000000 in
theorem refcut_any (gen : Int) (s : ByteArray) (w : World) (hs6 : s.size ≤ 1000000) :
    Calls Try.prog 13 #[.int .i64 gen, .string s] w fun e w' => ∃ p cap, e = .returned (.slice p (cutL (ruleOf gen) 0 s.data.toList).length cap) ∧ w'.ownsRow w.heap.size 36 2 (.slice p (cutL (ruleOf gen) 0 s.data.toList).length cap) (cutL (ruleOf gen) 0 s.data.toList).length (flatS (cutL (ruleOf gen) 0 s.data.toList)) ∧ Below w.heap.size w w' := by
  obtain ⟨K, hK⟩ : ∃ K, K = cutL (ruleOf gen) 0 s.data.toList := ⟨_, rfl⟩
  rw [← hK]
  by_cases h1 : gen = 1
  · subst h1
    have HF : Hid (Calls Try.prog 22 #[.int .i64 64, .int .i64 (s.size : Int)] w fun e w' => ∃ p cap, e = .returned (.slice p K.length cap) ∧ w'.ownsRow w.heap.size 36 2 (.slice p K.length cap) K.length (flatS K) ∧ Below w.heap.size w w') := Lib.hid (by
      have h := rfixed_any 64 s.size w (by omega) hs6
      rw [show s.size = s.data.toList.length from Lib.size_eq s, cutS_64, show cutL e64 0 s.data.toList = K from hK.symm] at h
      rw [show s.size = s.data.toList.length from Lib.size_eq s]
      exact h)
    clear hK
    go_enter Try.func13, Try.ntmps13
    go_wp2_with fail
    refine HF.out.mono ?_
    rintro e w2 ⟨p, cap, rfl, hown, hb⟩
    have HO := Lib.hid hown
    have HB2 := Lib.hid hb
    clear hown hb
    go_wp2_with fail
    go_ret
    exact ⟨p, cap, rfl, HO.out, HB2.out⟩
  · have HD := Lib.hid rdefault_any
    have hR : ruleOf gen = dfl := if_neg h1
    rw [hR] at hK
    have HR := Lib.hid (fun w' => rcut_any dfl s w' hs6)
    rw [← hK] at HR
    clear hK hR
    unfold RuleN.val dfl at HD HR
    simp only at HD HR
    go_enter Try.func13, Try.ntmps13
    go_wp2_with fail
    refine (HD.out _).mono ?_
    rintro e w1 ⟨rfl, hb1⟩
    have HB1 := Lib.hid hb1
    clear hb1
    go_wp2_with fail
    refine (HR.out _).mono ?_
    rintro e w2 ⟨p, cap, rfl, hown, hb⟩
    have HO := Lib.hid (row_lower hown HB1.out.size)
    have HB2 := Lib.hid (HB1.out.trans (hb.mono HB1.out.size))
    clear hown hb
    go_wp2_with fail
    go_ret
    exact ⟨p, cap, rfl, HO.out, HB2.out⟩
set_option maxRecDepth 100000 in
set_option maxHeartbeats 1000000 in
theorem rsame_any (A B : Option Addr) (m c d : Nat) (xs : List (Int × Int)) (w : World) (hm : xs.length = m) (hx : Spans w w.heap.size A xs) (hy : Spans w w.heap.size B xs) (hl : m ≤ 1000000) :
    Calls Try.prog 30 #[.slice A m c, .slice B m d] w fun e w' => e = .returned (.bool true) ∧ ∃ n, w' = w.drewN n := by
  have HX := Lib.hid hx
  have HY := Lib.hid hy
  have HM := Lib.hid hm
  clear hx hm hy
  go_enter Try.func30, Try.ntmps30
  go_wp2_with fail
  go_loopw [5] (fun i wr => ∃ (j n : Nat), j ≤ m ∧ i = .int .i64 j ∧ wr = w.drewN n) (fun i _ => m - (intOf i).toNat)
  case atStart => exact ⟨0, 0, Nat.zero_le _, rfl, rfl⟩
  case round =>
    obtain ⟨j, n, hj, rfl, rfl⟩ := hrel
    by_cases hlt : j < m
    · have hxl : j < xs.length := by rw [HM.out]; exact hlt
      obtain ⟨b, off, hA, hbB, hc⟩ := HX.out (by omega)
      obtain ⟨b', off', hA', hbB', hc'⟩ := HY.out (by omega)
      obtain ⟨x, hx⟩ : ∃ x, x = xs[j] := ⟨_, rfl⟩
      have hxj : xs[j]? = some x := by rw [hx]; exact List.getElem?_eq_getElem hxl
      obtain ⟨d0, d1⟩ := hc j x hxj
      obtain ⟨d2, d3⟩ := hc' j x hxj
      obtain ⟨xa, xs'⟩ := x
      simp only at d0 d1 d2 d3
      clear hxj hc hx hc'
      subst hA
      subst hA'
      go_wp2_with fail
      go_quiet (fail)
      go_wp2_with fail
      go_roundw
      case rel => exact ⟨j + 1, _, by omega, by go_num, rfl⟩
      case measure => simp [intOf]; omega
    · obtain rfl : j = m := by omega
      go_wp2_with fail
      go_ret
      exact ⟨rfl, _, rfl⟩
end Go.Proofs.Ytkcjiogackkecaa

namespace Go.Proofs.Ytkcjiogackkecaa
open Go.RowKit

theorem wfold_in : ∀ (l : List (Int × Int)) (a e : Int), l.foldl wstep (some a) = some e → a ≤ e ∧ (∀ (k : Nat) (x : Int × Int), l[k]? = some x → a ≤ x.1 ∧ x.1 < x.2 ∧ x.2 ≤ e) ∧ (∀ (i j : Nat) (x y : Int × Int), i < j → l[i]? = some x → l[j]? = some y → x.2 ≤ y.1) ∧ (l ≠ [] → ∃ x ∈ l, x.2 = e)
  | [], a, e, h => by
    simp only [List.foldl_nil, Option.some.injEq] at h
    exact ⟨by omega, fun k x hx => by simp at hx, fun i j x y _ hx => by simp at hx, fun h => absurd rfl h⟩
  | y :: r, a, e, h => by
    rw [List.foldl_cons, show wstep (some a) y = if y.1 ≠ a ∨ y.2 ≤ a then none else some y.2 from rfl] at h
    by_cases hy : y.1 ≠ a ∨ y.2 ≤ a
    · rw [if_pos hy] at h
      rw [wfold_none] at h
      cases h
    · rw [if_neg hy] at h
      obtain ⟨h1, h2, h3, h4⟩ := wfold_in r y.2 e h
      have q1 : y.1 = a := by omega
      have q2 : a < y.2 := by omega
      refine ⟨by omega, fun k x hx => ?_, fun i j x z hij hx hz => ?_, fun _ => ?_⟩
      · cases k with
        | zero => simp at hx; subst hx; omega
        | succ k => have := h2 k x (by simpa using hx); omega
      · cases j with
        | zero => omega
        | succ j =>
          have hz' : r[j]? = some z := by simpa using hz
          cases i with
          | zero => simp at hx; subst hx; exact (h2 j z hz').1
          | succ i => exact h3 i j x z (by omega) (by simpa using hx) hz'
      · by_cases hr : r = []
        · subst hr
          simp at h
          exact ⟨y, by simp, h⟩
        · obtain ⟨x, hx, hxe⟩ := h4 hr
          exact ⟨x, List.mem_cons_of_mem _ hx, hxe⟩
theorem wholeB_in {n : Int} {l : List (Int × Int)} (h : wholeB n l = true) : 0 ≤ n ∧ (∀ (k : Nat) (x : Int × Int), l[k]? = some x → 0 ≤ x.1 ∧ x.1 < x.2 ∧ x.2 ≤ n) ∧ (∀ (i j : Nat) (x y : Int × Int), i < j → l[i]? = some x → l[j]? = some y → x.2 ≤ y.1) ∧ (l ≠ [] → ∃ x ∈ l, x.2 = n) := by
  unfold wholeB at h
  exact wfold_in l 0 n (by simpa [wholeEnd] using h)
/-- A length beyond an int is that of none. -/
theorem wholeB_wrap {n : Int} {l : List (Int × Int)} (hn : -9223372036854775808 ≤ n ∧ n ≤ 9223372036856775808) (hl : ∀ x ∈ l, x.2 ≤ 9223372036854775807) : wholeB (IntKind.i64.wrap n) l = wholeB n l := by
  by_cases h : n ≤ 9223372036854775807
  · rw [show IntKind.i64.wrap n = n by rw [IntKind.wrap_i64]; omega]
  · have h1 : wholeB n l = false := by
      cases hw : wholeB n l with
      | false => rfl
      | true =>
        obtain ⟨_, _, _, h4⟩ := wholeB_in hw
        by_cases hn : l = []
        · subst hn
          unfold wholeB wholeEnd at hw
          simp at hw
          omega
        · obtain ⟨x, hx, hxe⟩ := h4 hn
          have := hl x hx
          omega
    rw [h1]
    cases hw : wholeB (IntKind.i64.wrap n) l with
    | false => rfl
    | true =>
      obtain ⟨h2, _⟩ := wholeB_in hw
      rw [IntKind.wrap_i64] at h2
      omega

set_option maxRecDepth 100000 in
set_option maxHeartbeats 2000000 in
theorem moved_any (g : Int) (A : Option Addr) (m c : Nat) (l : List (Int × Int)) (w : World) (hm : l.length = m) (hx : Spans w w.heap.size A l) (hl : m ≤ 1000000) (hg : ∀ x ∈ l, (0 ≤ x.1 + g ∧ x.1 + g ≤ 1000000) ∧ 0 ≤ x.2 + g ∧ x.2 + g ≤ 1000000) :
    Calls Try.prog 84 #[.int .i64 g, .slice A m c] w fun e w' => ∃ p cap, e = .returned (.slice p m cap) ∧ w'.ownsRow w.heap.size 36 2 (.slice p m cap) m (flatS (l.map (shS g))) ∧ Below w.heap.size w w' := by
  obtain ⟨i0, hi, hz0, hz1, hz2⟩ := info_parts hspans_info
  have HX := Lib.hid hx
  have HM := Lib.hid hm
  have HG := Lib.hid hg
  clear hx hm hg
  go_enter Try.func84, Try.ntmps84
  go_wp2_with fail
  go_loopw [5, 7, 10] (fun v x i wr => ∃ (j : Nat), j ≤ m ∧ i = .int .i64 j ∧ wr.ownsRow w.heap.size 36 2 v j (flatS ((l.map (shS g)).take j)) ∧ Below w.heap.size w wr) (fun _ _ i _ => m - (intOf i).toNat)
  case atStart => exact ⟨0, Nat.zero_le _, rfl, World.ownsRow_nil _ _ _ _, Below.refl _ _⟩
  case round =>
    obtain ⟨j, hj, rfl, hown, hbr⟩ := hrel
    obtain ⟨p, cap, rfl, -, -, -, -⟩ := krow_form hown
    have HOWN := Lib.hid hown
    have HBR := Lib.hid hbr
    clear hown hbr
    by_cases hlt : j < m
    · obtain ⟨x0, x1, hxj⟩ := spans_get HM.out hlt
      obtain ⟨b, off, hA, hbB, hc⟩ := HX.out (by rw [HM.out]; omega)
      obtain ⟨d0, d1⟩ := hc j _ hxj
      have e0 : wr.cell? ⟨b, off + j * 2, none⟩ = some (.int .i64 x0) := (HBR.out.cell (p := ⟨b, off + j * 2, none⟩) hbB).trans d0
      have e1 : wr.cell? ⟨b, off + j * 2 + 1, none⟩ = some (.int .i64 x1) := (HBR.out.cell (p := ⟨b, off + j * 2 + 1, none⟩) hbB).trans d1
      obtain ⟨⟨hg0, hg1⟩, hg2, hg3⟩ := HG.out _ (List.mem_of_getElem? hxj)
      simp only at hg0 hg1 hg2 hg3
      obtain ⟨y0, hy0⟩ : ∃ y, y = x0 + g := ⟨_, rfl⟩
      obtain ⟨y1, hy1⟩ : ∃ y, y = x1 + g := ⟨_, rfl⟩
      have hw0 : wrap64 (x0 + g) = y0 := by rw [hy0]; unfold wrap64; omega
      have hw1 : wrap64 (x1 + g) = y1 := by rw [hy1]; unfold wrap64; omega
      have HSN : Hid (flatS ((l.map (shS g)).take j) ++ [.int .i64 y0, .int .i64 y1] = flatS ((l.map (shS g)).take (j + 1))) := Lib.hid (by
        rw [List.take_add_one, List.getElem?_map, hxj, flatS_append, hy0, hy1]
        rfl)
      have hbr2 : Below w.heap.size w (wr.alloc (.cells #[.int .i64 x0, .int .i64 x1] 36)) := HBR.out.alloc HBR.out.size _
      have HB2 := Lib.hid hbr2
      have HS2 := Lib.hid HBR.out.size
      have HO2 := Lib.hid (HOWN.out.alloc (.cells #[.int .i64 x0, .int .i64 x1] 36))
      clear hxj hc d0 d1 hbr2 hy0 hy1 hg0 hg1 hg2 hg3
      subst hA
      have hj6 : j + 1 ≤ 1000001 := by omega
      go_wp2_with (at_builtin; refine wpList_append_lies _ rfl (.tmp 14) (.tmp 24) 33 rfl w.heap.size 36 i0 (.agg #[.int .i64 0, .int .i64 0]) 2 16 Try.underlying33 hi hz0 hz1 hz2 rfl (by omega) _ j _ rfl (HO2.out.alloc _) ⟨wr.heap.size + 1, 0, none⟩ 1 1 [.int .i64 y0, .int .i64 y1] rfl rfl ?c1 ?c2 (by omega) (by unfold maxLen; omega) (by omega) (by have := HS2.out; simp; omega) _ rfl ?_)
      case c1 =>
        have h := World.news_of_block (heap_alloc_new (wr.alloc (.cells #[.int .i64 x0, .int .i64 x1] 36)) (.cells #[.int .i64 y0, .int .i64 y1] 36))
        have e : (wr.alloc (.cells #[.int .i64 x0, .int .i64 x1] 36)).heap.size = wr.heap.size + 1 := by simp
        rw [e] at h
        exact h
      case c2 => intro u hu; simp at hu; rcases hu with rfl | rfl <;> rfl
      intro g' cap2 w3 hown3 hg3 hor3 hlt3
      have hb3 : Below w.heap.size w w3 := (HB2.out.alloc HB2.out.size _).grown hg3 (by have := HS2.out; simp; omega) (fun k hk => (HO2.out.lt k hk).1)
      have HB33 := Lib.hid hb3
      rw [HSN.out] at hown3
      have HOW3 := Lib.hid hown3
      clear hown3 hg3 hor3 hb3 hlt3
      go_wp2_with fail
      go_roundw
      case rel => exact ⟨j + 1, by omega, by go_num, HOW3.out, HB33.out⟩
      case measure => simp [intOf]; omega
    · obtain rfl : j = m := by omega
      have hown := HOWN.out
      rw [List.take_of_length_le (by rw [List.length_map, HM.out]; exact Nat.le_refl _)] at hown
      have HO := Lib.hid hown
      clear hown
      go_wp2_with fail
      go_ret
      exact ⟨p, cap, rfl, HO.out, HBR.out⟩
set_option maxRecDepth 100000 in
set_option maxHeartbeats 2000000 in
theorem ahead_any (a : Int) (same : Bool) (A : Option Addr) (m c : Nat) (l : List (Int × Int)) (w : World) (hm : l.length = m) (hx : Spans w w.heap.size A l) (hl : m ≤ 1000000) :
    Calls Try.prog 41 #[.slice A m c, .int .i64 a, .bool same] w fun e w' => e = .returned (.int .i64 (stayN l a same : Int)) ∧ w' = w := by
  have HX := Lib.hid hx
  have HM := Lib.hid hm
  clear hx hm
  go_enter Try.func41, Try.ntmps41
  go_wp2_with fail
  go_loopw [7] (fun i wr => ∃ (j : Nat), j ≤ m ∧ i = .int .i64 j ∧ (∀ (k : Nat) (x : Int × Int), k < j → l[k]? = some x → x.2 ≤ a) ∧ wr = w) (fun i _ => m - (intOf i).toNat)
  case atStart => exact ⟨0, Nat.zero_le _, rfl, fun k x h => by omega, rfl⟩
  case round =>
    obtain ⟨j, hj, rfl, hall, rfl⟩ := hrel
    have HALL := Lib.hid hall
    clear hall
    have HTW : Hid ((∀ x, l[j]? = some x → ¬ x.2 ≤ a) → aheadN l a = j) := Lib.hid (fun h => by
      unfold aheadN
      exact take_while_len _ l j (by rw [HM.out]; exact hj) (fun i x hi hx => decide_eq_true (HALL.out i x hi hx)) (fun x hx => decide_eq_false (h x hx)))
    by_cases hlt : j < m
    · obtain ⟨x0, x1, hxj⟩ := spans_get HM.out hlt
      obtain ⟨b, off, hA, hbB, hc⟩ := HX.out (by rw [HM.out]; omega)
      obtain ⟨d0, d1⟩ := hc j _ hxj
      have HXJ := Lib.hid hxj
      clear hxj hc d0
      subst hA
      simp only at d1
      have hltI : decide ((j : Int) < (m : Int)) = true := decide_eq_true (by omega)
      by_cases hle : x1 ≤ a
      · have hd : decide (x1 ≤ a) = true := decide_eq_true hle
        go_wp2_with fail
        go_roundw
        case rel =>
          refine ⟨j + 1, by omega, by go_num, fun k x hk hx => ?_, by first | rfl | trivial⟩
          rcases Nat.lt_or_ge k j with h | h
          · exact HALL.out k x h hx
          · have : k = j := by omega
            subst this
            rw [HXJ.out] at hx
            injection hx with hx
            subst hx
            exact hle
        case measure => simp [intOf]; omega
      · have hd : decide (x1 ≤ a) = false := decide_eq_false hle
        have hA := HTW.out (fun x hx => by rw [HXJ.out] at hx; injection hx with hx; subst hx; exact hle)
        have HE : Hid (stayN l a same = j) := Lib.hid (by unfold stayN; rw [hA, HM.out, if_neg (by omega)])
        clear hA
        have hne : decide ((j : Int) = (m : Int)) = false := decide_eq_false (by omega)
        by_cases h0 : 0 < j
        · have h0I : decide ((0 : Int) < (j : Int)) = true := decide_eq_true (by omega)
          go_wp2_with fail
          go_ret
          exact ⟨by rw [HE.out]; rfl, rfl⟩
        · have h0I : decide ((0 : Int) < (j : Int)) = false := decide_eq_false (by omega)
          go_wp2_with fail
          go_ret
          exact ⟨by rw [HE.out]; rfl, rfl⟩
    · obtain rfl : j = m := by omega
      have hA := HTW.out (fun x hx => by rw [List.getElem?_eq_none (by rw [HM.out]; exact Nat.le_refl _)] at hx; cases hx)
      by_cases h0 : 0 < j
      · have h0I : (0 : Int) < (j : Int) := by omega
        cases same with
        | true =>
          have HE : Hid (stayN l a true = j) := Lib.hid (by unfold stayN; rw [hA, HM.out, if_neg (by simp)])
          clear hA
          go_wp2_with fail
          go_ret
          exact ⟨by rw [HE.out]; rfl, rfl⟩
        | false =>
          have HE : Hid (stayN l a false = j - 1) := Lib.hid (by unfold stayN; rw [hA, HM.out, if_pos ⟨h0, rfl, rfl⟩])
          clear hA
          go_wp2_with fail
          go_ret
          refine ⟨?_, rfl⟩
          rw [HE.out]
          show Ending.returned (.int .i64 _) = _
          congr 2
          try rw [IntKind.wrap_i64]
          omega
      · have h0I : ¬ (0 : Int) < (j : Int) := by omega
        have HE : Hid (stayN l a same = j) := Lib.hid (by unfold stayN; rw [hA, HM.out, if_neg (by omega)])
        clear hA
        go_wp2_with fail
        go_ret
        exact ⟨by rw [HE.out]; rfl, rfl⟩
end Go.Proofs.Ytkcjiogackkecaa

namespace Go.Proofs.Ytkcjiogackkecaa
open Go.RowKit

set_option maxRecDepth 100000 in
set_option maxHeartbeats 2000000 in
theorem may_any (a b g : Int) (S : Nat) (A : Option Addr) (m c : Nat) (l : List (Int × Int)) (w : World) (hm : l.length = m) (hx : Spans w w.heap.size A l) (hl : m ≤ 1000000) (hS : S ≤ 1000000)
    (_ha : -9223372036854775808 ≤ a ∧ a ≤ 9223372036854775807) (hb : -9223372036854775808 ≤ b ∧ b ≤ 9223372036854775807) (hg : -9223372036854775808 ≤ g ∧ g ≤ 9223372036854775807) (hlb : ∀ x ∈ l, x.2 ≤ 9223372036854775807) :
    Calls Try.prog 40 #[.slice A m c, .int .i64 (S : Int), .int .i64 a, .int .i64 b, .int .i64 g] w fun e w' => e = .returned (.bool (mayB l S a b g)) ∧ Below w.heap.size w w' := by
  obtain ⟨V, hV⟩ : ∃ V, V = mayB l S a b g := ⟨_, rfl⟩
  rw [← hV]
  have hwh : wholeB (IntKind.i64.wrap ((S : Int) - g)) l = wholeB ((S : Int) - g) l := wholeB_wrap (by omega) hlb
  obtain ⟨n, hn⟩ : ∃ n, n = wrap64 ((S : Int) - g) := ⟨_, rfl⟩
  have hn2 : n = IntKind.i64.wrap ((S : Int) - g) := by rw [hn, IntKind.wrap_i64]; unfold wrap64; omega
  rw [← hn2] at hwh
  have HF := fwhole_any n A m c l w hm hx hl
  rw [hwh] at HF
  have hsub : wrap64 ((S : Int) - g) = n := hn.symm
  cases hw : wholeB ((S : Int) - g) l with
  | false =>
    have HE : Hid (V = false) := Lib.hid (by rw [hV]; unfold mayB; rw [hw]; rfl)
    rw [hw] at HF
    have HFF := Lib.hid HF
    clear HF hw hV hwh hn hn2 hx hlb
    go_enter Try.func40, Try.ntmps40
    go_wp2_with fail
    refine HFF.out.mono ?_
    rintro e w2 ⟨rfl, hb2⟩
    have HB := Lib.hid hb2
    clear hb2
    go_wp2_with fail
    go_ret
    exact ⟨by rw [HE.out]; rfl, HB.out⟩
  | true =>
    obtain ⟨hn0, -, -, hn4⟩ := wholeB_in hw
    have hnm : (S : Int) - g ≤ 9223372036854775807 := by
      by_cases hl0 : l = []
      · subst hl0
        unfold wholeB wholeEnd at hw
        simp at hw
        omega
      · obtain ⟨x, hx1, hx2⟩ := hn4 hl0
        have := hlb x hx1
        omega
    clear hn4
    have HV : Hid (V = (decide (0 ≤ a) && decide (a ≤ b) && decide (b ≤ (S : Int)) && decide (a ≤ b - g))) := Lib.hid (by rw [hV]; unfold mayB; rw [hw, Bool.true_and])
    rw [hw, show n = (S : Int) - g by rw [hn]; unfold wrap64; omega] at HF
    have HFF := Lib.hid HF
    clear HF hw hV hwh hn hn2 hx hlb hsub
    by_cases h0 : 0 ≤ a
    case neg =>
      have HE : Hid (V = false) := Lib.hid (by rw [HV.out, decide_eq_false h0]; rfl)
      have d0 : decide (0 ≤ a) = false := decide_eq_false h0
      clear h0
      go_enter Try.func40, Try.ntmps40
      go_wp2_with fail
      refine HFF.out.mono ?_
      rintro e w2 ⟨rfl, hb2⟩
      have HB := Lib.hid hb2
      clear hb2
      go_wp2_with fail
      go_ret
      exact ⟨by rw [HE.out]; rfl, HB.out⟩
    by_cases h1 : a ≤ b
    case neg =>
      have HE : Hid (V = false) := Lib.hid (by rw [HV.out, decide_eq_false h1]; simp)
      have d1 : decide (a ≤ b) = false := decide_eq_false h1
      clear h1
      go_enter Try.func40, Try.ntmps40
      go_wp2_with fail
      refine HFF.out.mono ?_
      rintro e w2 ⟨rfl, hb2⟩
      have HB := Lib.hid hb2
      clear hb2
      go_wp2_with fail
      go_ret
      exact ⟨by rw [HE.out]; rfl, HB.out⟩
    by_cases h2 : b ≤ (S : Int)
    case neg =>
      have HE : Hid (V = false) := Lib.hid (by rw [HV.out, decide_eq_false h2]; simp)
      have d2 : decide (b ≤ (S : Int)) = false := decide_eq_false h2
      clear h2
      go_enter Try.func40, Try.ntmps40
      go_wp2_with fail
      refine HFF.out.mono ?_
      rintro e w2 ⟨rfl, hb2⟩
      have HB := Lib.hid hb2
      clear hb2
      go_wp2_with fail
      go_ret
      exact ⟨by rw [HE.out]; rfl, HB.out⟩
    have HE : Hid (V = decide (a ≤ b - g)) := Lib.hid (by rw [HV.out, decide_eq_true h0, decide_eq_true h1, decide_eq_true h2]; rfl)
    clear HV
    go_enter Try.func40, Try.ntmps40
    go_wp2_with fail
    refine HFF.out.mono ?_
    rintro e w2 ⟨rfl, hb2⟩
    have HB := Lib.hid hb2
    clear hb2
    go_wp2_with fail
    go_ret
    exact ⟨by rw [HE.out]; rfl, HB.out⟩

set_option maxRecDepth 100000 in
set_option maxHeartbeats 4000000 in
theorem search_any (p : Int) (A : Option Addr) (m c : Nat) (l : List (Int × Int)) (w : World) (hm : l.length = m) (hx : Spans w w.heap.size A l) (hl : m ≤ 1000000) (ho : ∀ (i j : Nat) (x y : Int × Int), i < j → l[i]? = some x → l[j]? = some y → x.1 < y.1) :
    Calls Try.prog 82 #[.slice A m c, .int .i64 p, .func (.func 83) #[] #[]] w fun e w' => ∃ (k : Nat) (fd : Bool), e = .returned (.tuple #[.int .i64 (k : Int), .bool fd]) ∧ (fd = true → findS l p = some k) ∧ (fd = false → findS l p = none) ∧ Below w.heap.size w w' := by
  have HX := Lib.hid hx
  have HM := Lib.hid hm
  have HO := Lib.hid ho
  have HBG := Lib.hid begins_any
  clear hx hm ho
  go_enter Try.func82, Try.ntmps82
  go_wp2_with fail
  go_loopw [9, 10, 11] (fun u v _ wr => ∃ (i j : Nat), i ≤ j ∧ j ≤ m ∧ u = .int .i64 (i : Int) ∧ v = .int .i64 (j : Int) ∧ (∀ (k : Nat) (x : Int × Int), k < i → l[k]? = some x → x.1 < p) ∧ (∀ (k : Nat) (x : Int × Int), j ≤ k → l[k]? = some x → p ≤ x.1) ∧ Below w.heap.size w wr) (fun u v _ _ => (intOf v).toNat - (intOf u).toNat)
  case atStart => exact ⟨0, m, Nat.zero_le _, Nat.le_refl _, rfl, rfl, (fun k x h => by omega), (fun k x h hx => by rw [List.getElem?_eq_none (by have := HM.out; omega)] at hx; cases hx), Below.refl _ _⟩
  case round =>
    obtain ⟨i, j, hij, hjm, rfl, rfl, hlo, hhi, hbr⟩ := hrel
    have HLO := Lib.hid hlo
    have HHI := Lib.hid hhi
    have HBR := Lib.hid hbr
    clear hlo hhi hbr
    by_cases hlt : i < j
    · have h1 : i ≤ (i + j) / 2 := by omega
      have h2 : (i + j) / 2 < j := by omega
      obtain ⟨x0, x1, hxj⟩ := spans_get HM.out (by omega : (i + j) / 2 < m)
      obtain ⟨b, off, hA, hbB, hc⟩ := HX.out (by rw [HM.out]; omega)
      obtain ⟨d0, d1⟩ := hc _ _ hxj
      have e0 : wr.cell? ⟨b, off + (i + j) / 2 * 2, none⟩ = some (.int .i64 x0) := (HBR.out.cell (p := ⟨b, off + (i + j) / 2 * 2, none⟩) hbB).trans d0
      have e1 : wr.cell? ⟨b, off + (i + j) / 2 * 2 + 1, none⟩ = some (.int .i64 x1) := (HBR.out.cell (p := ⟨b, off + (i + j) / 2 * 2 + 1, none⟩) hbB).trans d1
      have HXJ := Lib.hid hxj
      have HH : Hid (((i : Int) + (j : Int)) / 2 = (((i + j) / 2 : Nat) : Int)) := Lib.hid (by omega)
      clear hc d0 d1 hxj
      subst hA
      go_wp2_with fail
      obtain ⟨h, hh⟩ : ∃ h, h = (i + j) / 2 := ⟨_, rfl⟩
      rw [HH.out]
      rw [← hh] at h1 h2 HXJ e0 e1 ⊢
      clear HH hh
      by_cases hx0 : x0 < p
      · have hB := HBG.out x0 x1 p wr
        rw [if_pos hx0] at hB
        refine hB.mono ?_
        rintro e w2 ⟨rfl, hb2⟩
        have HB2 := Lib.hid (HBR.out.trans (hb2.mono HBR.out.size))
        clear hb2 hB
        go_wp2_with fail
        go_roundw
        case rel =>
          refine ⟨h + 1, j, by omega, hjm, by go_num, rfl, fun k x hk hx => ?_, HHI.out, HB2.out⟩
          rcases Nat.lt_or_ge k h with hkh | hkh
          · have := HO.out k h x _ hkh hx HXJ.out
            simp only at this
            omega
          · have : k = h := by omega
            subst this
            rw [HXJ.out] at hx
            injection hx with hx
            subst hx
            exact hx0
        case measure => simp [intOf]; omega
      · have hB := HBG.out x0 x1 p wr
        rw [if_neg hx0] at hB
        obtain ⟨q, hq⟩ : ∃ q : Int, q = (if p < x0 then 1 else 0) := ⟨_, rfl⟩
        rw [← hq] at hB
        have hq0 : ¬ q < 0 := by rw [hq]; split <;> omega
        clear hq
        refine hB.mono ?_
        rintro e w2 ⟨rfl, hb2⟩
        have HB2 := Lib.hid (HBR.out.trans (hb2.mono HBR.out.size))
        clear hb2 hB
        go_wp2_with fail
        go_roundw
        case rel =>
          refine ⟨i, h, by omega, by omega, rfl, rfl, HLO.out, fun k x hk hx => ?_, HB2.out⟩
          rcases Nat.lt_or_ge h k with hkh | hkh
          · have := HO.out h k _ x hkh HXJ.out hx
            simp only at this
            omega
          · have : k = h := by omega
            subst this
            rw [HXJ.out] at hx
            injection hx with hx
            subst hx
            simp only
            omega
        case measure => simp [intOf]; omega
    · obtain rfl : i = j := by omega
      by_cases hjm2 : i < m
      · obtain ⟨x0, x1, hxj⟩ := spans_get HM.out hjm2
        obtain ⟨b, off, hA, hbB, hc⟩ := HX.out (by rw [HM.out]; omega)
        obtain ⟨d0, d1⟩ := hc _ _ hxj
        have e0 : wr.cell? ⟨b, off + i * 2, none⟩ = some (.int .i64 x0) := (HBR.out.cell (p := ⟨b, off + i * 2, none⟩) hbB).trans d0
        have e1 : wr.cell? ⟨b, off + i * 2 + 1, none⟩ = some (.int .i64 x1) := (HBR.out.cell (p := ⟨b, off + i * 2 + 1, none⟩) hbB).trans d1
        have HF : Hid ((x0 = p → findS l p = some i) ∧ (x0 ≠ p → findS l p = none)) := Lib.hid (by
          refine ⟨fun h => ?_, fun h => ?_⟩
          · cases hf : findS l p with
            | none => exact absurd h (findS_none hf i _ hxj)
            | some k =>
              obtain ⟨y1, hy⟩ := findS_some hf
              rcases Nat.lt_trichotomy k i with hk | hk | hk
              · have := HO.out k i _ _ hk hy hxj; simp only at this; omega
              · rw [hk]
              · have := HO.out i k _ _ hk hxj hy; simp only at this; omega
          · cases hf : findS l p with
            | none => rfl
            | some k =>
              exfalso
              obtain ⟨y1, hy⟩ := findS_some hf
              rcases Nat.lt_trichotomy k i with hk | hk | hk
              · have := HLO.out k _ hk hy; simp only at this; omega
              · subst hk; rw [hxj] at hy; injection hy with hy; injection hy with hy; omega
              · have h1 := HO.out i k _ _ hk hxj hy
                have h2 := HHI.out i _ (Nat.le_refl _) hxj
                simp only at h1 h2
                omega)
        have HGE := Lib.hid (HHI.out i _ (Nat.le_refl _) hxj)
        clear hc d0 d1 hxj
        subst hA
        have hlI : decide ((i : Int) < (m : Int)) = true := decide_eq_true (by omega)
        go_wp2_with fail
        have hB := HBG.out x0 x1 p wr
        have hge : p ≤ x0 := HGE.out
        rw [if_neg (by omega)] at hB
        by_cases hxp : p < x0
        · rw [if_pos hxp] at hB
          refine hB.mono ?_
          rintro e w2 ⟨rfl, hb2⟩
          have HB2 := Lib.hid (HBR.out.trans (hb2.mono HBR.out.size))
          clear hb2 hB
          go_wp2_with fail
          go_ret2
          exact ⟨i, false, rfl, (fun h => by cases h), (fun _ => HF.out.2 (by omega)), HB2.out⟩
        · rw [if_neg hxp] at hB
          refine hB.mono ?_
          rintro e w2 ⟨rfl, hb2⟩
          have HB2 := Lib.hid (HBR.out.trans (hb2.mono HBR.out.size))
          clear hb2 hB
          go_wp2_with fail
          go_ret2
          exact ⟨i, true, rfl, (fun _ => HF.out.1 (by omega)), (fun h => by cases h), HB2.out⟩
      · have HN : Hid (findS l p = none) := Lib.hid (by
          cases hf : findS l p with
          | none => rfl
          | some k =>
            exfalso
            obtain ⟨y1, hy⟩ := findS_some hf
            rcases Nat.lt_or_ge k i with hk | hk
            · have := HLO.out k _ hk hy; simp only at this; omega
            · rw [List.getElem?_eq_none (by have := HM.out; omega)] at hy; cases hy)
        have hlI : decide ((i : Int) < (m : Int)) = false := decide_eq_false (by omega)
        go_wp2_with fail
        go_ret2
        exact ⟨i, false, rfl, (fun h => by cases h), (fun _ => HN.out), HBR.out⟩
end Go.Proofs.Ytkcjiogackkecaa
