/-
  All cuts: the code's and the document's own. No statement is proved here.
-/
import Derived.Test.YtkcjiogackkecaaCdcFirst
import Derived.Test.YtkcjiogackkecaaJoin
import Derived.Test.YtkcjiogackkecaaGrow
import Derived.Test.YtkcjiogackkecaaPhase
import Derived.Test.YtkcjiogackkecaaFixed
import Derived.Deep.AppendLies
namespace Go.Proofs.Ytkcjiogackkecaa
open Go.RowKit

theorem join_cats (xs : List ByteArray) : Lib.join (xs.map (·.data.toList)) [] = cats xs := by
  induction xs with
  | nil => rfl
  | cons x r ih =>
    have h : ∀ l : List (List UInt8), Lib.joinTail [] l = l.flatten := by
      intro l
      induction l with
      | nil => rfl
      | cons y q ihq => simp [Lib.joinTail]
    rw [List.map_cons, Lib.join_cons, h]
    simp [cats, List.flatMap]
/-- strings.Join with nothing between. -/
theorem sjoin_any (A : Option Addr) (m c : Nat) (xs : List ByteArray) (w : World) (hm : xs.length = m) (hx : Txts w w.heap.size A xs) (hl : m ≤ 1000000) (hc : m ≤ c) (hs : (cats xs).length ≤ 1000000) :
    Calls Try.prog 34 #[.slice A m c, .string ⟨#[]⟩] w fun e w' => e = .returned (.string ⟨(cats xs).toArray⟩) ∧ Below w.heap.size w w' := by
  rcases Nat.eq_zero_or_pos m with h0 | h0
  · subst h0
    have : xs = [] := List.eq_nil_of_length_eq_zero hm
    subst this
    refine (join_none A c ⟨#[]⟩ w).mono ?_
    rintro e w' ⟨rfl, rfl⟩
    exact ⟨rfl, Below.refl _ _⟩
  · obtain ⟨b, off, rfl, hb, hcell⟩ := hx (by omega)
    have h := join_some b off c xs ⟨#[]⟩ w (fun j x hj => hcell j x hj) hb (by omega) (by omega) (by rw [show (⟨#[]⟩ : ByteArray).data.toList = [] from rfl, join_cats]; omega)
    rw [hm, show (⟨#[]⟩ : ByteArray).data.toList = [] from rfl, join_cats] at h
    exact h
theorem extract_list (s : ByteArray) (a b : Nat) : (s.extract a b).data.toList = (s.data.toList.take b).drop a := by
  rw [ByteArray.data_extract, Array.toList_extract, List.extract_eq_take_drop, ← List.drop_take]
theorem extract_drop (s : ByteArray) (a : Nat) : (s.extract a s.size).data.toList = s.data.toList.drop a := by
  rw [extract_list, List.take_of_length_le (by rw [← Lib.size_eq]; exact Nat.le_refl _)]

set_option maxRecDepth 100000 in
set_option maxHeartbeats 4000000 in
theorem ccut_any (R : RuleN) (A : Option Addr) (m c : Nat) (xs : List ByteArray) (w : World) (hm : xs.length = m) (hx : Txts w w.heap.size A xs) (hl : m ≤ 1000000) (hc : m ≤ c) (hs : (cats xs).length ≤ 1000000) :
    Calls Try.prog 15 #[R.val, .slice A m c] w fun e w' => ∃ p cap, e = .returned (.slice p (cutL R 0 (cats xs)).length cap) ∧ w'.ownsRow w.heap.size 36 2 (.slice p (cutL R 0 (cats xs)).length cap) (cutL R 0 (cats xs)).length (flatS (cutL R 0 (cats xs))) ∧ Below w.heap.size w w' := by
  obtain ⟨i0, hi, hz0, hz1, hz2⟩ := info_parts hspans_info
  obtain ⟨l, hL⟩ : ∃ l, l = cats xs := ⟨_, rfl⟩
  obtain ⟨cs, hcs⟩ : ∃ cs, cs = cutL R 0 l := ⟨_, rfl⟩
  rw [← hL, ← hcs]
  rw [← hL] at hs
  obtain ⟨s, hS⟩ : ∃ s : ByteArray, s = ⟨l.toArray⟩ := ⟨_, rfl⟩
  have hsl : s.data.toList = l := by rw [hS]
  have hsz : s.size = l.length := by rw [Lib.size_eq, hsl]
  have HSL := Lib.hid hsl
  have HSZ := Lib.hid hsz
  have HCS := Lib.hid hcs
  have HCE : Hid (∀ k f : Nat, cs.drop k = cutL R f (l.drop f) → ∀ F, F = firstL R (l.drop f) → f < l.length → 1 ≤ F ∧ F ≤ l.length - f ∧ cs.drop (k + 1) = cutL R (f + F) (l.drop (f + F)) ∧ cs[k]? = some ((f : Int), ((f + F : Nat) : Int))) := Lib.hid (by
    intro k f hd F hF hf
    have hne : l.drop f ≠ [] := by
      intro e
      have := congrArg List.length e
      rw [List.length_drop, List.length_nil] at this
      omega
    have h1 := firstL_pos R _ hne
    have h2 := firstL_le R (l.drop f)
    rw [List.length_drop] at h2
    rw [cutL_cons R f _ hne, List.drop_drop, ← hF] at hd
    refine ⟨by omega, by omega, ?_, ?_⟩
    · rw [← List.drop_drop, hd]; rfl
    · have := congrArg (fun q : List (Int × Int) => q[0]?) hd
      simpa using this)
  have hj := sjoin_any A m c xs w hm hx hl hc (by rw [← hL]; exact hs)
  rw [← hL, ← hS] at hj
  have HJ := Lib.hid hj
  have HFA := Lib.hid (cfirst_any R)
  have hs6 : s.size ≤ 1000000 := by omega
  obtain ⟨a, b, c5, d, e5⟩ := R
  have HBK : Hid (Blk (w.alloc (.cells #[.int .i64 a, .int .i64 b, .int .i64 c5, .int .i64 d, .int .i64 e5] 23)) w.heap.size 23 #[.int .i64 a, .int .i64 b, .int .i64 c5, .int .i64 d, .int .i64 e5]) := Lib.hid (Blk.new w _ _)
  have HB1 : Hid (Below w.heap.size w (w.alloc (.cells #[.int .i64 a, .int .i64 b, .int .i64 c5, .int .i64 d, .int .i64 e5] 23))) := Lib.hid ((Below.refl _ _).alloc (Nat.le_refl _) _)
  have HJW := Lib.hid (sjoin_any A m c xs (w.alloc (.cells #[.int .i64 a, .int .i64 b, .int .i64 c5, .int .i64 d, .int .i64 e5] 23)) hm ((hx.below HB1.out).more HB1.out.size) hl hc (by rw [← hL]; exact hs))
  rw [← hL, ← hS] at HJW
  clear hj HJ hm hx hS hsl hcs hL hsz
  unfold RuleN.val at HFA ⊢
  simp only at HFA
  go_enter Try.func15, Try.ntmps15
  go_wp2_with fail
  refine HJW.out.mono ?_
  rintro e w1 ⟨rfl, hb1⟩
  have hbk1 := HBK.out.below hb1 HBK.out.lt
  have HBK1 := Lib.hid hbk1
  have HB2 := Lib.hid (HB1.out.trans (hb1.mono HB1.out.size))
  clear hb1 hbk1
  go_wp2_with fail
  go_loopw [6, 7] (fun v f wr => ∃ (j x : Nat), x ≤ s.size ∧ j ≤ x ∧ cs.drop j = cutL ⟨a, b, c5, d, e5⟩ x (l.drop x) ∧ j ≤ cs.length ∧ f = .int .i64 (x : Int) ∧ wr.ownsRow w1.heap.size 36 2 v j (flatS (cs.take j)) ∧ Below w1.heap.size w1 wr) (fun _ f _ => s.size - (intOf f).toNat)
  case atStart => exact ⟨0, 0, Nat.zero_le _, Nat.le_refl _, HCS.out, Nat.zero_le _, rfl, World.ownsRow_nil _ _ _ _, Below.refl _ _⟩
  case round =>
    obtain ⟨j, x, hx, hjx, hcj, hjl, rfl, hown, hbr⟩ := hrel
    obtain ⟨p, cap, rfl, -, -, -, -⟩ := krow_form hown
    have HOWN := Lib.hid hown
    have HCJ := Lib.hid hcj
    have HJL := Lib.hid hjl
    clear hown hcj hjl
    by_cases hlt : x < s.size
    · obtain ⟨F, hF⟩ : ∃ F, F = firstL ⟨a, b, c5, d, e5⟩ (l.drop x) := ⟨_, rfl⟩
      obtain ⟨f1, f2, f3, f4⟩ := HCE.out j x HCJ.out F hF (by have := HSZ.out; omega)
      have hFsz : x + F ≤ s.size := by have := HSZ.out; omega
      obtain ⟨y, hy⟩ : ∃ y, y = x + F := ⟨_, rfl⟩
      have hwrap : IntKind.i64.wrap ((x : Int) + (F : Int)) = (y : Int) := by rw [IntKind.wrap_i64]; omega
      rw [← hy] at f3 f4
      have HC3 := Lib.hid f3
      have HC4 := Lib.hid f4
      have hys : y ≤ s.size := by omega
      have HY := Lib.hid hy
      have HFF : Hid (∀ w' : World, Calls Try.prog 35 #[.agg #[.int .i64 a, .int .i64 b, .int .i64 c5, .int .i64 d, .int .i64 e5], .string (s.extract x s.size)] w' fun e w'' => e = .returned (.int .i64 (F : Int)) ∧ Below w'.heap.size w' w'') := Lib.hid (fun w' => by
        have h := HFA.out (s.extract x s.size) w' (by rw [ByteArray.size_extract]; omega)
        rw [extract_drop, HSL.out, ← hF] at h
        exact h)
      have HFP := Lib.hid f1
      clear f2 f3 f4 hF f1 hy hFsz
      have h0J : Below wr.heap.size wr wr.drew := (Below.refl _ _).drew
      have HCELL : Hid (∀ w', Below wr.heap.size wr w' → w'.cell? ⟨w.heap.size, 0, none⟩ = some (.int .i64 a) ∧ w'.cell? ⟨w.heap.size, 1, none⟩ = some (.int .i64 b) ∧ w'.cell? ⟨w.heap.size, 2, none⟩ = some (.int .i64 c5) ∧ w'.cell? ⟨w.heap.size, 3, none⟩ = some (.int .i64 d) ∧ w'.cell? ⟨w.heap.size, 4, none⟩ = some (.int .i64 e5)) := Lib.hid (fun w' hw => by
        have hk := (HBK1.out.below hbr HBK1.out.lt).below hw (HBK1.out.below hbr HBK1.out.lt).lt
        exact ⟨hk.cell 0, hk.cell 1, hk.cell 2, hk.cell 3, hk.cell 4⟩)
      have hxI : (x : Int) < (s.size : Int) := by omega
      have HBR := Lib.hid hbr
      clear hbr
      go_upto_region 5 with fail
      refine wp_region_grow (Below wr.heap.size wr) (by kernel_rfl) (by kernel_rfl) h0J ?_
      apply grow_step
      · intro w' hw K hK
        go_simp
        exact hK
      · exact ⟨_, rfl, Nat.le_of_ble_eq_true rfl⟩
      · exact ⟨_, h0J⟩
      apply grow_step
      · intro w' hw K hK
        obtain ⟨q0, q1, q2, q3, q4⟩ := HCELL.out w' hw
        go_simp
        exact hK
      · exact ⟨_, rfl, Nat.le_of_ble_eq_true rfl⟩
      · exact ⟨_, h0J⟩
      apply grow_step
      · intro w' hw K hK
        go_simp
        exact hK
      · exact ⟨_, rfl, Nat.le_of_ble_eq_true rfl⟩
      · exact ⟨_, h0J⟩
      apply grow_step
      · intro w' hw K hK
        go_simp
        exact hK
      · exact ⟨_, rfl, Nat.le_of_ble_eq_true rfl⟩
      · exact ⟨_, h0J⟩
      apply grow_step
      · intro w' hw K hK
        go_simp
        exact hK
      · exact ⟨_, rfl, Nat.le_of_ble_eq_true rfl⟩
      · exact ⟨_, h0J⟩
      refine grow_call (fun w' hw => (HFF.out w').mono fun e w'' ⟨he, hb⟩ => ⟨he, hw.trans (hb.mono hw.size)⟩) (by simp [Region.wanted]) (fun w' hw => by go_simp) ?_
      simp only [Act.put, List.setIfInBounds_toArray, List.set_cons_succ, List.set_cons_zero]
      apply grow_step
      · intro w' hw K hK
        go_simp
        exact hK
      · exact ⟨_, rfl, Nat.le_of_ble_eq_true rfl⟩
      · exact ⟨_, h0J⟩
      apply grow_step
      · intro w' hw K hK
        go_simp
        exact hK
      · exact ⟨_, rfl, Nat.le_of_ble_eq_true rfl⟩
      · exact ⟨_, h0J⟩
      refine grow_nil ?_
      intro w2 hw2
      have HB22 := Lib.hid (HBR.out.trans (hw2.mono HBR.out.size))
      have HOWN2 := Lib.hid (row_below HOWN.out hw2)
      have HSN : Hid (flatS (cs.take j) ++ [.int .i64 (x : Int), .int .i64 (y : Int)] = flatS (cs.take (j + 1))) := Lib.hid (by
        rw [List.take_add_one, HC4.out, flatS_append]
        rfl)
      have hj6 : j + 1 ≤ 1000001 := by omega
      have HS2 : Hid (w1.heap.size ≤ w2.heap.size) := Lib.hid HB22.out.size
      have HJ1 : Hid (j + 1 ≤ cs.length) := Lib.hid (by
        rcases Nat.lt_or_ge j cs.length with h | h
        · exact h
        · have := HC4.out
          rw [List.getElem?_eq_none h] at this
          cases this)
      clear hw2 h0J
      go_wp2_with (at_builtin; refine wpList_append_lies _ rfl (.tmp 22) (.tmp 26) 33 rfl w1.heap.size 36 i0 (.agg #[.int .i64 0, .int .i64 0]) 2 16 Try.underlying33 hi hz0 hz1 hz2 rfl (by omega) _ j _ rfl (HOWN2.out.alloc _) ⟨w2.heap.size, 0, none⟩ 1 1 [.int .i64 (x : Int), .int .i64 (y : Int)] rfl rfl ?c1 ?c2 (by omega) (by unfold maxLen; omega) (by omega) (by have := HS2.out; simp; omega) _ rfl ?_)
      case c1 => exact World.news_of_block (heap_alloc_new w2 _)
      case c2 => intro u hu; simp at hu; rcases hu with rfl | rfl <;> rfl
      intro g cap2 w3 hown3 hg3 hor3 hlt3
      have hb3 : Below w1.heap.size w1 w3 := (HB22.out.alloc HB22.out.size _).grown hg3 (by have := HS2.out; simp; omega) (fun k hk => (HOWN2.out.lt k hk).1)
      have HB33 := Lib.hid hb3
      rw [HSN.out] at hown3
      have HOW3 := Lib.hid hown3
      clear hown3 hg3 hor3 hb3 hlt3
      go_wp2_with fail
      go_roundw
      case rel => exact ⟨j + 1, y, hys, by have := HFP.out; have := HY.out; omega, HC3.out, HJ1.out, rfl, HOW3.out, HB33.out⟩
      case measure => have := HFP.out; have := HY.out; simp [intOf]; omega
    · have HJE : Hid (j = cs.length) := Lib.hid (by
        have h := HCJ.out
        have h2 : l.drop x = [] := List.drop_eq_nil_of_le (by rw [← HSZ.out]; omega)
        rw [h2, cutL_nil] at h
        have := congrArg List.length h
        rw [List.length_drop, List.length_nil] at this
        have := HJL.out
        omega)
      have HOWE : Hid (wr.ownsRow w1.heap.size 36 2 (.slice p j cap) j (flatS cs)) := Lib.hid (by
        have h := HOWN.out
        rw [List.take_of_length_le (by rw [HJE.out]; exact Nat.le_refl _)] at h
        exact h)
      have hjc := HJE.out
      subst hjc
      have hxI : ¬ (x : Int) < (s.size : Int) := by omega
      go_wp2_with fail
      go_ret
      exact ⟨p, cap, rfl, row_lower HOWE.out HB2.out.size, HB2.out.trans (hbr.mono HB2.out.size)⟩
set_option maxRecDepth 100000 in
set_option maxHeartbeats 4000000 in
theorem rcut_any (R : RuleN) (s : ByteArray) (w : World) (hs6 : s.size ≤ 1000000) :
    Calls Try.prog 16 #[R.val, .string s] w fun e w' => ∃ p cap, e = .returned (.slice p (cutL R 0 s.data.toList).length cap) ∧ w'.ownsRow w.heap.size 36 2 (.slice p (cutL R 0 s.data.toList).length cap) (cutL R 0 s.data.toList).length (flatS (cutL R 0 s.data.toList)) ∧ Below w.heap.size w w' := by
  obtain ⟨i0, hi, hz0, hz1, hz2⟩ := info_parts hspans_info
  obtain ⟨l, hsl'⟩ : ∃ l, l = s.data.toList := ⟨_, rfl⟩
  have hsl : s.data.toList = l := hsl'.symm
  obtain ⟨cs, hcs⟩ : ∃ cs, cs = cutL R 0 l := ⟨_, rfl⟩
  rw [hsl, ← hcs]
  have hsz : s.size = l.length := by rw [Lib.size_eq, hsl]
  have HSL := Lib.hid hsl
  have HSZ := Lib.hid hsz
  have HCS := Lib.hid hcs
  have HCE : Hid (∀ k f : Nat, cs.drop k = cutL R f (l.drop f) → ∀ F, F = firstL R (l.drop f) → f < l.length → 1 ≤ F ∧ F ≤ l.length - f ∧ cs.drop (k + 1) = cutL R (f + F) (l.drop (f + F)) ∧ cs[k]? = some ((f : Int), ((f + F : Nat) : Int))) := Lib.hid (by
    intro k f hd F hF hf
    have hne : l.drop f ≠ [] := by
      intro e
      have := congrArg List.length e
      rw [List.length_drop, List.length_nil] at this
      omega
    have h1 := firstL_pos R _ hne
    have h2 := firstL_le R (l.drop f)
    rw [List.length_drop] at h2
    rw [cutL_cons R f _ hne, List.drop_drop, ← hF] at hd
    refine ⟨by omega, by omega, ?_, ?_⟩
    · rw [← List.drop_drop, hd]; rfl
    · have := congrArg (fun q : List (Int × Int) => q[0]?) hd
      simpa using this)
  have HFA := Lib.hid (rfirst_any R)
  obtain ⟨a, b, c5, d, e5⟩ := R
  have HBK : Hid (Blk (w.alloc (.cells #[.int .i64 a, .int .i64 b, .int .i64 c5, .int .i64 d, .int .i64 e5] 40)) w.heap.size 40 #[.int .i64 a, .int .i64 b, .int .i64 c5, .int .i64 d, .int .i64 e5]) := Lib.hid (Blk.new w _ _)
  have HB1 : Hid (Below w.heap.size w (w.alloc (.cells #[.int .i64 a, .int .i64 b, .int .i64 c5, .int .i64 d, .int .i64 e5] 40))) := Lib.hid ((Below.refl _ _).alloc (Nat.le_refl _) _)
  clear hsl hsl' hcs hsz
  unfold RuleN.val at HFA ⊢
  simp only at HFA
  go_enter Try.func16, Try.ntmps16
  go_wp2_with fail
  obtain ⟨w1, hw1⟩ : ∃ w1, w1 = w.alloc (.cells #[.int .i64 a, .int .i64 b, .int .i64 c5, .int .i64 d, .int .i64 e5] 40) := ⟨_, rfl⟩
  rw [← hw1] at HBK HB1 ⊢
  have HBK1 := HBK
  have HB2 := HB1
  clear hw1
  go_loopw [5, 6] (fun v f wr => ∃ (j x : Nat), x ≤ s.size ∧ j ≤ x ∧ cs.drop j = cutL ⟨a, b, c5, d, e5⟩ x (l.drop x) ∧ j ≤ cs.length ∧ f = .int .i64 (x : Int) ∧ wr.ownsRow w1.heap.size 36 2 v j (flatS (cs.take j)) ∧ Below w1.heap.size w1 wr) (fun _ f _ => s.size - (intOf f).toNat)
  case atStart => exact ⟨0, 0, Nat.zero_le _, Nat.le_refl _, HCS.out, Nat.zero_le _, rfl, World.ownsRow_nil _ _ _ _, Below.refl _ _⟩
  case round =>
    obtain ⟨j, x, hx, hjx, hcj, hjl, rfl, hown, hbr⟩ := hrel
    obtain ⟨p, cap, rfl, -, -, -, -⟩ := krow_form hown
    have HOWN := Lib.hid hown
    have HCJ := Lib.hid hcj
    have HJL := Lib.hid hjl
    clear hown hcj hjl
    by_cases hlt : x < s.size
    · obtain ⟨F, hF⟩ : ∃ F, F = firstL ⟨a, b, c5, d, e5⟩ (l.drop x) := ⟨_, rfl⟩
      obtain ⟨f1, f2, f3, f4⟩ := HCE.out j x HCJ.out F hF (by have := HSZ.out; omega)
      have hFsz : x + F ≤ s.size := by have := HSZ.out; omega
      obtain ⟨y, hy⟩ : ∃ y, y = x + F := ⟨_, rfl⟩
      have hwrap : IntKind.i64.wrap ((x : Int) + (F : Int)) = (y : Int) := by rw [IntKind.wrap_i64]; omega
      rw [← hy] at f3 f4
      have HC3 := Lib.hid f3
      have HC4 := Lib.hid f4
      have hys : y ≤ s.size := by omega
      have HY := Lib.hid hy
      have HFF : Hid (∀ w' : World, Calls Try.prog 18 #[.agg #[.int .i64 a, .int .i64 b, .int .i64 c5, .int .i64 d, .int .i64 e5], .string (s.extract x s.size)] w' fun e w'' => e = .returned (.int .i64 (F : Int)) ∧ Below w'.heap.size w' w'') := Lib.hid (fun w' => by
        have h := HFA.out (s.extract x s.size) w' (by rw [ByteArray.size_extract]; omega)
        rw [extract_drop, HSL.out, ← hF] at h
        exact h)
      have HFP := Lib.hid f1
      clear f2 f3 f4 hF f1 hy hFsz
      have h0J : Below wr.heap.size wr wr.drew := (Below.refl _ _).drew
      have HCELL : Hid (∀ w', Below wr.heap.size wr w' → w'.cell? ⟨w.heap.size, 0, none⟩ = some (.int .i64 a) ∧ w'.cell? ⟨w.heap.size, 1, none⟩ = some (.int .i64 b) ∧ w'.cell? ⟨w.heap.size, 2, none⟩ = some (.int .i64 c5) ∧ w'.cell? ⟨w.heap.size, 3, none⟩ = some (.int .i64 d) ∧ w'.cell? ⟨w.heap.size, 4, none⟩ = some (.int .i64 e5)) := Lib.hid (fun w' hw => by
        have hk := (HBK1.out.below hbr HBK1.out.lt).below hw (HBK1.out.below hbr HBK1.out.lt).lt
        exact ⟨hk.cell 0, hk.cell 1, hk.cell 2, hk.cell 3, hk.cell 4⟩)
      have hxI : (x : Int) < (s.size : Int) := by omega
      have HBR := Lib.hid hbr
      clear hbr
      go_upto_region 4 with fail
      refine wp_region_grow (Below wr.heap.size wr) (by kernel_rfl) (by kernel_rfl) h0J ?_
      apply grow_step
      · intro w' hw K hK
        obtain ⟨q0, q1, q2, q3, q4⟩ := HCELL.out w' hw
        go_simp
        exact hK
      · exact ⟨_, rfl, Nat.le_of_ble_eq_true rfl⟩
      · exact ⟨_, h0J⟩
      apply grow_step
      · intro w' hw K hK
        go_simp
        exact hK
      · exact ⟨_, rfl, Nat.le_of_ble_eq_true rfl⟩
      · exact ⟨_, h0J⟩
      apply grow_step
      · intro w' hw K hK
        go_simp
        exact hK
      · exact ⟨_, rfl, Nat.le_of_ble_eq_true rfl⟩
      · exact ⟨_, h0J⟩
      apply grow_step
      · intro w' hw K hK
        go_simp
        exact hK
      · exact ⟨_, rfl, Nat.le_of_ble_eq_true rfl⟩
      · exact ⟨_, h0J⟩
      refine grow_call (fun w' hw => (HFF.out w').mono fun e w'' ⟨he, hb⟩ => ⟨he, hw.trans (hb.mono hw.size)⟩) (by simp [Region.wanted]) (fun w' hw => by go_simp) ?_
      simp only [Act.put, List.setIfInBounds_toArray, List.set_cons_succ, List.set_cons_zero]
      apply grow_step
      · intro w' hw K hK
        go_simp
        exact hK
      · exact ⟨_, rfl, Nat.le_of_ble_eq_true rfl⟩
      · exact ⟨_, h0J⟩
      refine grow_nil ?_
      intro w2 hw2
      have HB22 := Lib.hid (HBR.out.trans (hw2.mono HBR.out.size))
      have HOWN2 := Lib.hid (row_below HOWN.out hw2)
      have HSN : Hid (flatS (cs.take j) ++ [.int .i64 (x : Int), .int .i64 (y : Int)] = flatS (cs.take (j + 1))) := Lib.hid (by
        rw [List.take_add_one, HC4.out, flatS_append]
        rfl)
      have hj6 : j + 1 ≤ 1000001 := by omega
      have HS2 : Hid (w1.heap.size ≤ w2.heap.size) := Lib.hid HB22.out.size
      have HJ1 : Hid (j + 1 ≤ cs.length) := Lib.hid (by
        rcases Nat.lt_or_ge j cs.length with h | h
        · exact h
        · have := HC4.out
          rw [List.getElem?_eq_none h] at this
          cases this)
      clear hw2 h0J
      go_wp2_with (at_builtin; refine wpList_append_lies _ rfl (.tmp 17) (.tmp 23) 33 rfl w1.heap.size 36 i0 (.agg #[.int .i64 0, .int .i64 0]) 2 16 Try.underlying33 hi hz0 hz1 hz2 rfl (by omega) _ j _ rfl (HOWN2.out.alloc _) ⟨w2.heap.size, 0, none⟩ 1 1 [.int .i64 (x : Int), .int .i64 (y : Int)] rfl rfl ?c1 ?c2 (by omega) (by unfold maxLen; omega) (by omega) (by have := HS2.out; simp; omega) _ rfl ?_)
      case c1 => exact World.news_of_block (heap_alloc_new w2 _)
      case c2 => intro u hu; simp at hu; rcases hu with rfl | rfl <;> rfl
      intro g cap2 w3 hown3 hg3 hor3 hlt3
      have hb3 : Below w1.heap.size w1 w3 := (HB22.out.alloc HB22.out.size _).grown hg3 (by have := HS2.out; simp; omega) (fun k hk => (HOWN2.out.lt k hk).1)
      have HB33 := Lib.hid hb3
      rw [HSN.out] at hown3
      have HOW3 := Lib.hid hown3
      clear hown3 hg3 hor3 hb3 hlt3
      go_wp2_with fail
      go_roundw
      case rel => exact ⟨j + 1, y, hys, by have := HFP.out; have := HY.out; omega, HC3.out, HJ1.out, rfl, HOW3.out, HB33.out⟩
      case measure => have := HFP.out; have := HY.out; simp [intOf]; omega
    · have HJE : Hid (j = cs.length) := Lib.hid (by
        have h := HCJ.out
        have h2 : l.drop x = [] := List.drop_eq_nil_of_le (by rw [← HSZ.out]; omega)
        rw [h2, cutL_nil] at h
        have := congrArg List.length h
        rw [List.length_drop, List.length_nil] at this
        have := HJL.out
        omega)
      have HOWE : Hid (wr.ownsRow w1.heap.size 36 2 (.slice p j cap) j (flatS cs)) := Lib.hid (by
        have h := HOWN.out
        rw [List.take_of_length_le (by rw [HJE.out]; exact Nat.le_refl _)] at h
        exact h)
      have hjc := HJE.out
      subst hjc
      have hxI : ¬ (x : Int) < (s.size : Int) := by omega
      go_wp2_with fail
      go_ret
      exact ⟨p, cap, rfl, row_lower HOWE.out HB2.out.size, HB2.out.trans (hbr.mono HB2.out.size)⟩
end Go.Proofs.Ytkcjiogackkecaa
