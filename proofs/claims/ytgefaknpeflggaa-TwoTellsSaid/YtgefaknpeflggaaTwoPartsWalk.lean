/-
  TwoParts, walked.
-/
import Derived.Test.YtgefaknpeflggaaTwoAlive
import Derived.Test.YtgefaknpeflggaaTwoKnownWalk
import Derived.Test.YtgefaknpeflggaaKept
import Derived.Deep.DeepCutAuto
import Derived.Deep.RegionWith
namespace Go.Proofs.Ytgefaknpeflggaa
open Go.RowKit

theorem arr49 (a : Array Value) (h : a.size = 49) : ∃ x0 x1 x2 x3 x4 x5 x6 x7 x8 x9 x10 x11 x12 x13 x14 x15 x16 x17 x18 x19 x20 x21 x22 x23 x24 x25 x26 x27 x28 x29 x30 x31 x32 x33 x34 x35 x36 x37 x38 x39 x40 x41 x42 x43 x44 x45 x46 x47 x48 : Value, a = #[x0, x1, x2, x3, x4, x5, x6, x7, x8, x9, x10, x11, x12, x13, x14, x15, x16, x17, x18, x19, x20, x21, x22, x23, x24, x25, x26, x27, x28, x29, x30, x31, x32, x33, x34, x35, x36, x37, x38, x39, x40, x41, x42, x43, x44, x45, x46, x47, x48] := by
  obtain ⟨l⟩ := a
  have h : l.length = 49 := h
  obtain ⟨x0, t1, e1, h1⟩ := cons_of h
  obtain ⟨x1, t2, e2, h2⟩ := cons_of h1
  obtain ⟨x2, t3, e3, h3⟩ := cons_of h2
  obtain ⟨x3, t4, e4, h4⟩ := cons_of h3
  obtain ⟨x4, t5, e5, h5⟩ := cons_of h4
  obtain ⟨x5, t6, e6, h6⟩ := cons_of h5
  obtain ⟨x6, t7, e7, h7⟩ := cons_of h6
  obtain ⟨x7, t8, e8, h8⟩ := cons_of h7
  obtain ⟨x8, t9, e9, h9⟩ := cons_of h8
  obtain ⟨x9, t10, e10, h10⟩ := cons_of h9
  obtain ⟨x10, t11, e11, h11⟩ := cons_of h10
  obtain ⟨x11, t12, e12, h12⟩ := cons_of h11
  obtain ⟨x12, t13, e13, h13⟩ := cons_of h12
  obtain ⟨x13, t14, e14, h14⟩ := cons_of h13
  obtain ⟨x14, t15, e15, h15⟩ := cons_of h14
  obtain ⟨x15, t16, e16, h16⟩ := cons_of h15
  obtain ⟨x16, t17, e17, h17⟩ := cons_of h16
  obtain ⟨x17, t18, e18, h18⟩ := cons_of h17
  obtain ⟨x18, t19, e19, h19⟩ := cons_of h18
  obtain ⟨x19, t20, e20, h20⟩ := cons_of h19
  obtain ⟨x20, t21, e21, h21⟩ := cons_of h20
  obtain ⟨x21, t22, e22, h22⟩ := cons_of h21
  obtain ⟨x22, t23, e23, h23⟩ := cons_of h22
  obtain ⟨x23, t24, e24, h24⟩ := cons_of h23
  obtain ⟨x24, t25, e25, h25⟩ := cons_of h24
  obtain ⟨x25, t26, e26, h26⟩ := cons_of h25
  obtain ⟨x26, t27, e27, h27⟩ := cons_of h26
  obtain ⟨x27, t28, e28, h28⟩ := cons_of h27
  obtain ⟨x28, t29, e29, h29⟩ := cons_of h28
  obtain ⟨x29, t30, e30, h30⟩ := cons_of h29
  obtain ⟨x30, t31, e31, h31⟩ := cons_of h30
  obtain ⟨x31, t32, e32, h32⟩ := cons_of h31
  obtain ⟨x32, t33, e33, h33⟩ := cons_of h32
  obtain ⟨x33, t34, e34, h34⟩ := cons_of h33
  obtain ⟨x34, t35, e35, h35⟩ := cons_of h34
  obtain ⟨x35, t36, e36, h36⟩ := cons_of h35
  obtain ⟨x36, t37, e37, h37⟩ := cons_of h36
  obtain ⟨x37, t38, e38, h38⟩ := cons_of h37
  obtain ⟨x38, t39, e39, h39⟩ := cons_of h38
  obtain ⟨x39, t40, e40, h40⟩ := cons_of h39
  obtain ⟨x40, t41, e41, h41⟩ := cons_of h40
  obtain ⟨x41, t42, e42, h42⟩ := cons_of h41
  obtain ⟨x42, t43, e43, h43⟩ := cons_of h42
  obtain ⟨x43, t44, e44, h44⟩ := cons_of h43
  obtain ⟨x44, t45, e45, h45⟩ := cons_of h44
  obtain ⟨x45, t46, e46, h46⟩ := cons_of h45
  obtain ⟨x46, t47, e47, h47⟩ := cons_of h46
  obtain ⟨x47, t48, e48, h48⟩ := cons_of h47
  obtain ⟨x48, t49, e49, h49⟩ := cons_of h48
  have e50 := List.eq_nil_of_length_eq_zero h49
  exact ⟨x0, x1, x2, x3, x4, x5, x6, x7, x8, x9, x10, x11, x12, x13, x14, x15, x16, x17, x18, x19, x20, x21, x22, x23, x24, x25, x26, x27, x28, x29, x30, x31, x32, x33, x34, x35, x36, x37, x38, x39, x40, x41, x42, x43, x44, x45, x46, x47, x48, by rw [e1, e2, e3, e4, e5, e6, e7, e8, e9, e10, e11, e12, e13, e14, e15, e16, e17, e18, e19, e20, e21, e22, e23, e24, e25, e26, e27, e28, e29, e30, e31, e32, e33, e34, e35, e36, e37, e38, e39, e40, e41, e42, e43, e44, e45, e46, e47, e48, e49, e50]⟩
theorem getD_some {a : Array Value} {t : Nat} {v : Value} (h : a[t]?.getD undef = v) (ht : t < a.size) : a[t]? = some v := by
  rw [Array.getElem?_eq_getElem ht] at h ⊢
  exact congrArg some h
theorem txts_of_blk {w : World} {g : Nat} {cs : Array Value} {xs : List ByteArray} (h : Blk w g 9 cs) (hcs : cs = (xs.map Value.string).toArray) : Txts w w.heap.size (some ⟨g, 0, none⟩) xs := by
  intro _
  refine ⟨g, 0, rfl, h.lt, fun j x hx => ?_⟩
  rw [h.cell, hcs]
  simp [hx]
section
variable {P : Program} {ops : Array Oper} {Q : Exit → Act → World → Prop} {K : Act → World → Prop} {x : Act} {w w' : World} {o : Oper} {i : Nat}
theorem wpOp_value_g {v : Value} (hi : ops[i]? = some o) (hg : Region.wanted o (yielded ops x.tmps) = true) (hr : (execOp x.eval o).run P w = .ok (.value v) w') (hK : K (x.put o.dst v) w') : wpOp P ops Q i K x w := by
  simp only [wpOp, hi, hg, Oper.wp, hr, Oper.upon]
  exact .inl hK
theorem wpOp_call_g {f : FuncId} {args : Array Value} (hi : ops[i]? = some o) (hg : Region.wanted o (yielded ops x.tmps) = true) (hr : (execOp x.eval o).run P w = .ok (.enter f args) w) (hc : Calls P f args w fun e w' => ∃ v, e = .returned v ∧ K (x.put o.dst v) w') : wpOp P ops Q i K x w := by
  simp only [wpOp, hi, hg, Oper.wp, hr, Oper.upon]
  exact .inl (hc.mono fun e w'' ⟨v, he, hK⟩ => by subst he; exact hK)
theorem wanted_at {o o12 : Oper} {j t : Nat} {x : Act} (hg : o.guard = some (j, true)) (hj : ops[j]? = some o12) (hd : o12.dst = some t) (hv : x.tmps[t]? = some (.bool true)) : Region.wanted o (yielded ops x.tmps) = true := by
  simp [Region.wanted, hg, yielded, hj, hd, hv]
end

section
variable (s a b T : ByteArray) (k : Nat)
/-- What operation i leaves in its slot. -/
def paFact (w : World) (i : Nat) (v : Value) : Prop :=
  match i with
  | 0 | 3 | 8 | 13 | 16 | 21 => v = .string s
  | 1 | 4 | 14 | 17 => v = .int .i64 (k : Int)
  | 2 | 15 => v = .string a
  | 5 | 18 => v = .string b
  | 6 => ∃ g, v = .slice (some ⟨g, 0, none⟩) 2 2 ∧ Blk w g 9 #[.string a, .string b]
  | 9 | 22 => ∃ g, v = .slice (some ⟨g, 0, none⟩) 1 1 ∧ Blk w g 9 #[.string s]
  | 19 => ∃ g, v = .slice (some ⟨g, 0, none⟩) 3 3 ∧ Blk w g 9 #[.string a, .string ⟨#[]⟩, .string b]
  | 7 | 10 | 20 | 23 => v = .string T
  | _ => v = .bool true
theorem paFact_below {w w' : World} (hb : Below w.heap.size w w') (i : Nat) (v : Value) (h : paFact s a b T k w i v) : paFact s a b T k w' i v := by
  unfold paFact at *
  split at h <;> first
    | exact h
    | (obtain ⟨g, e, h2⟩ := h; exact ⟨g, e, h2.below hb h2.lt⟩)
theorem paFact_6 {w : World} {v : Value} (h : paFact s a b T k w 6 v) : ∃ g, v = .slice (some ⟨g, 0, none⟩) 2 2 ∧ Blk w g 9 #[.string a, .string b] := by
  unfold paFact at h
  exact h
theorem paFact_9 {w : World} {v : Value} (h : paFact s a b T k w 9 v) : ∃ g, v = .slice (some ⟨g, 0, none⟩) 1 1 ∧ Blk w g 9 #[.string s] := by
  unfold paFact at h
  exact h
theorem paFact_19 {w : World} {v : Value} (h : paFact s a b T k w 19 v) : ∃ g, v = .slice (some ⟨g, 0, none⟩) 3 3 ∧ Blk w g 9 #[.string a, .string ⟨#[]⟩, .string b] := by
  unfold paFact at h
  exact h
theorem paFact_22 {w : World} {v : Value} (h : paFact s a b T k w 22 v) : ∃ g, v = .slice (some ⟨g, 0, none⟩) 1 1 ∧ Blk w g 9 #[.string s] := by
  unfold paFact at h
  exact h
variable (w0 : World) (F : Act)
def paInv (L : Nat → Bool) (x : Act) (w : World) : Prop :=
  (x.defers = F.defers ∧ x.tmps.size = 49 ∧ ∀ t, t ≠ 4 → (t < 23 ∨ 48 < t) → x.tmps[t]? = F.tmps[t]?) ∧ Left 26 23 (paFact s a b T k w) L x ∧ Below w0.heap.size w0 w ∧ (L 26 = true → x.tmps[4]? = some (.bool true))
theorem pa_next {L : Nat → Bool} {x : Act} {w w' : World} (h : paInv s a b T k w0 F L x w) (i : Nat) (v : Value) (hi : i < 26) (hb : Below w.heap.size w w') (hvi : paFact s a b T k w' i v) :
    paInv s a b T k w0 F (fun j => if i = j then true else L j) (x.put (some (23 + i)) v) w' := by
  obtain ⟨h1, h2, h3, h4⟩ := h
  refine ⟨⟨h1.1, by simp [Act.put, h1.2.1], fun t h5 h6 => ?_⟩, h2.next i v (by rw [h1.2.1]; omega) (fun j u _ _ hju => paFact_below s a b T k hb j u hju) hvi, h3.trans (hb.mono h3.size), fun h => ?_⟩
  · rw [← h1.2.2 t h5 h6]
    simp only [Act.put]
    exact Array.getElem?_setIfInBounds_ne (by omega)
  · simp only [if_neg (show ¬ i = 26 by omega)] at h
    rw [← h4 h]
    simp only [Act.put]
    exact Array.getElem?_setIfInBounds_ne (by omega)
theorem pa_last {L : Nat → Bool} {x : Act} {w : World} (h : paInv s a b T k w0 F L x w) : paInv s a b T k w0 F (fun j => if 26 = j then true else L j) (x.put (some 4) (.bool true)) w := by
  obtain ⟨h1, h2, h3, h4⟩ := h
  refine ⟨⟨h1.1, by simp [Act.put, h1.2.1], fun t h5 h6 => ?_⟩, fun i hi hL => ?_, h3, fun _ => ?_⟩
  · rw [← h1.2.2 t h5 h6]
    simp only [Act.put]
    exact Array.getElem?_setIfInBounds_ne (by omega)
  · simp only [if_neg (show ¬ 26 = i by omega)] at hL
    rw [put_there x 4 (23 + i) _ (by omega)]
    exact h2 i hi hL
  · simp [Act.put, h1.2.1]
end

/-- The parts of a text. -/
theorem parts_join (s : ByteArray) (k : Nat) : cats [s.extract 0 k, s.extract k s.size] = cats [s] := by
  simp only [cats, List.flatMap_cons, List.flatMap_nil, List.append_nil]
  rw [rest_list, ByteArray.data_extract, Array.toList_extract, List.extract_eq_take_drop, List.drop_zero, Nat.sub_zero, List.take_append_drop]
theorem parts_join3 (s : ByteArray) (k : Nat) : cats [s.extract 0 k, ⟨#[]⟩, s.extract k s.size] = cats [s] := by
  rw [← parts_join s k]
  simp [cats]

set_option maxRecDepth 100000 in
set_option maxHeartbeats 1000000 in
theorem tparts_out (s : ByteArray) (at_ : Int) (w : World) (h : 800 < s.size ∨ at_ < 0) (hs : s.size ≤ 140737488351232) :
    Calls Try.prog 5 #[.string s, .int .i64 at_] w fun e w' => e = .returned (.bool true) ∧ Below w.heap.size w w' := by
  by_cases h1 : 800 < s.size
  · have hI : (800 : Int) < (s.size : Int) := by omega
    go_enter Try.func5, Try.ntmps5
    go_wp2_with (go_at_call 8; refine (alive4_any _).mono ?_; rintro e w1 ⟨rfl, hb1⟩)
    go_wp2_with fail
    go_ret
    exact ⟨rfl, hb1⟩
  · have h2 : at_ < 0 := by omega
    go_enter Try.func5, Try.ntmps5
    go_wp2_with (go_at_call 8; refine (alive4_any _).mono ?_; rintro e w1 ⟨rfl, hb1⟩)
    go_wp2_with fail
    go_ret
    exact ⟨rfl, hb1⟩

set_option maxRecDepth 100000 in
set_option maxHeartbeats 4000000 in
theorem tparts_in (s : ByteArray) (n : Nat) (w : World) (h : s.size ≤ 800) (hn : n ≤ 9223372036854775807) :
    Calls Try.prog 5 #[.string s, .int .i64 (n : Int)] w fun e w' => e = .returned (.bool true) ∧ Below w.heap.size w w' := by
  obtain ⟨k, hk⟩ : ∃ k, k = n % (s.size + 1) := ⟨_, rfl⟩
  have hk1 : k ≤ s.size := by have := Nat.mod_lt n (show 0 < s.size + 1 by omega); omega
  have hkI : Int.tmod (n : Int) ((s.size : Int) + 1) = (k : Int) := by
    rw [Int.tmod_eq_emod_of_nonneg (by omega), hk, Int.natCast_emod, Int.natCast_add]
    rfl
  have hkE : (n : Int) % ((s.size : Int) + 1) = (k : Int) := by rw [← hkI, Int.tmod_eq_emod_of_nonneg (by omega)]
  have hkS : (k : Int) ≤ (s.size : Int) := by omega
  have hsl : s.data.toList.length ≤ 800 := by rw [← Lib.size_eq]; exact h
  obtain ⟨T, hT⟩ : ∃ T, T = twoT [s] := ⟨_, rfl⟩
  obtain ⟨a, ha⟩ : ∃ a, a = s.extract 0 k := ⟨_, rfl⟩
  obtain ⟨b, hb⟩ : ∃ b, b = s.extract k s.size := ⟨_, rfl⟩
  have hj2 : cats [a, b] = cats [s] := by rw [ha, hb]; exact parts_join s k
  have hj3 : cats [a, ⟨#[]⟩, b] = cats [s] := by rw [ha, hb]; exact parts_join3 s k
  have hcs : (cats [s]).length ≤ 800 := by simp [cats]; exact h
  have HS1 := Lib.hid (sum_list2 T [s] hT 1 rfl (by omega) (by omega))
  have HS2 := Lib.hid (sum_list2 T [a, b] (by rw [hT]; unfold twoT; rw [hj2]) 2 rfl (by omega) (by rw [hj2]; omega))
  have HS3 := Lib.hid (sum_list2 T [a, ⟨#[]⟩, b] (by rw [hT]; unfold twoT; rw [hj3]) 3 rfl (by omega) (by rw [hj3]; omega))
  have HA := Lib.hid ha
  have HBb := Lib.hid hb
  clear hT ha hb hj2 hj3 hcs hsl hk
  go_enter Try.func5, Try.ntmps5
  go_wp2_with (go_at_call 8; refine (alive4_any _).mono ?_; rintro e w1 ⟨rfl, hb1⟩)
  have HB1 := Lib.hid hb1
  clear hb1
  go_upto_region 4 with fail
  refine wp_region_kept_at (fun F L x wi => paInv s a b T k w1 F L x wi) (by kernel_rfl) (by kernel_rfl) ?h0 ?hs ?hd
  case h0 => exact ⟨⟨rfl, rfl, fun _ _ _ => rfl⟩, (fun _ _ h => by cases h), (Below.refl _ _).drew, fun h => by cases h⟩
  case hd =>
    intro L x wi ⟨hF, _, hbi, h4⟩ hall
    have h4 := h4 (hall 26 (show 26 < 27 by omega))
    obtain ⟨t, d⟩ := x
    obtain ⟨x0, x1, x2, x3, x4, x5, x6, x7, x8, x9, x10, x11, x12, x13, x14, x15, x16, x17, x18, x19, x20, x21, x22, x23, x24, x25, x26, x27, x28, x29, x30, x31, x32, x33, x34, x35, x36, x37, x38, x39, x40, x41, x42, x43, x44, x45, x46, x47, x48, rfl⟩ := arr49 t hF.2.1
    obtain rfl : d = [] := hF.1
    obtain rfl : x4 = .bool true := Option.some.inj h4
    clear h4 hall hF
    go_wp2_with fail
    go_ret
    exact ⟨rfl, HB1.out.trans (hbi.mono HB1.out.size)⟩
  case hs =>
    intro L x wi i hI hi hL hw
    have hi : i < 27 := hi
    obtain ⟨hF, hfact, hbi, _⟩ := id hI
    by_cases hi26 : i = 26
    · subst hi26
      have e1 : x.tmps[48]?.getD undef = .bool true := hfact 25 (by omega) (hw 25 (of_decide_eq_true (by kernel_rfl)))
      have HK := Lib.hid (pa_last s a b T k w1 _ hI)
      clear hI hF hfact hbi hw hL hi
      refine wpOp_value_g (v := .bool true) (w' := wi) rfl rfl ?_ HK.out
      go_simp
    have hi : i < 26 := by omega
    rcases (show i = 0 ∨ i = 1 ∨ i = 2 ∨ i = 3 ∨ i = 4 ∨ i = 5 ∨ i = 6 ∨ i = 7 ∨ i = 8 ∨ i = 9 ∨ i = 10 ∨ i = 11 ∨ i = 12 ∨ i = 13 ∨ i = 14 ∨ i = 15 ∨ i = 16 ∨ i = 17 ∨ i = 18 ∨ i = 19 ∨ i = 20 ∨ i = 21 ∨ i = 22 ∨ i = 23 ∨ i = 24 ∨ i = 25 by omega) with rfl | rfl | rfl | rfl | rfl | rfl | rfl | rfl | rfl | rfl | rfl | rfl | rfl | rfl | rfl | rfl | rfl | rfl | rfl | rfl | rfl | rfl | rfl | rfl | rfl | rfl
    · have e0 : x.tmps[0]?.getD undef = .string s := by rw [hF.2.2 0 (by omega) (by omega)]; rfl
      have HK := Lib.hid (pa_next s a b T k w1 _ hI 0 (.string s) (by omega) (Below.refl _ _) rfl)
      clear hI hF hfact hbi hw hL hi
      refine wpOp_value_g (v := .string s) (w' := wi) rfl rfl ?_ HK.out
      go_simp
    · have e0 : x.tmps[5]?.getD undef = .int .i64 (k : Int) := by rw [hF.2.2 5 (by omega) (by omega)]; rfl
      have HK := Lib.hid (pa_next s a b T k w1 _ hI 1 (.int .i64 (k : Int)) (by omega) (Below.refl _ _) rfl)
      clear hI hF hfact hbi hw hL hi
      refine wpOp_value_g (v := .int .i64 (k : Int)) (w' := wi) rfl rfl ?_ HK.out
      go_simp
    · have e1 : x.tmps[23]?.getD undef = .string s := hfact 0 (by omega) (hw 0 (of_decide_eq_true (by kernel_rfl)))
      have e2 : x.tmps[24]?.getD undef = .int .i64 (k : Int) := hfact 1 (by omega) (hw 1 (of_decide_eq_true (by kernel_rfl)))
      have ex : s.extract 0 k = a := HA.out.symm
      have HK := Lib.hid (pa_next s a b T k w1 _ hI 2 (.string a) (by omega) (Below.refl _ _) rfl)
      clear hI hF hfact hbi hw hL hi
      refine wpOp_value_g (v := .string a) (w' := wi) rfl rfl ?_ HK.out
      go_simp
    · have e0 : x.tmps[0]?.getD undef = .string s := by rw [hF.2.2 0 (by omega) (by omega)]; rfl
      have HK := Lib.hid (pa_next s a b T k w1 _ hI 3 (.string s) (by omega) (Below.refl _ _) rfl)
      clear hI hF hfact hbi hw hL hi
      refine wpOp_value_g (v := .string s) (w' := wi) rfl rfl ?_ HK.out
      go_simp
    · have e0 : x.tmps[5]?.getD undef = .int .i64 (k : Int) := by rw [hF.2.2 5 (by omega) (by omega)]; rfl
      have HK := Lib.hid (pa_next s a b T k w1 _ hI 4 (.int .i64 (k : Int)) (by omega) (Below.refl _ _) rfl)
      clear hI hF hfact hbi hw hL hi
      refine wpOp_value_g (v := .int .i64 (k : Int)) (w' := wi) rfl rfl ?_ HK.out
      go_simp
    · have e1 : x.tmps[26]?.getD undef = .string s := hfact 3 (by omega) (hw 3 (of_decide_eq_true (by kernel_rfl)))
      have e2 : x.tmps[27]?.getD undef = .int .i64 (k : Int) := hfact 4 (by omega) (hw 4 (of_decide_eq_true (by kernel_rfl)))
      have ex : s.extract k s.size = b := HBb.out.symm
      have HK := Lib.hid (pa_next s a b T k w1 _ hI 5 (.string b) (by omega) (Below.refl _ _) rfl)
      clear hI hF hfact hbi hw hL hi
      refine wpOp_value_g (v := .string b) (w' := wi) rfl rfl ?_ HK.out
      go_simp
    · have e1 : x.tmps[25]?.getD undef = .string a := hfact 2 (by omega) (hw 2 (of_decide_eq_true (by kernel_rfl)))
      have e2 : x.tmps[28]?.getD undef = .string b := hfact 5 (by omega) (hw 5 (of_decide_eq_true (by kernel_rfl)))
      have HK := Lib.hid (pa_next s a b T k w1 _ hI 6 (.slice (some ⟨wi.heap.size, 0, none⟩) 2 2) (by omega) (w' := wi.alloc (.cells #[.string a, .string b] 9)) ((Below.refl _ _).alloc (Nat.le_refl _) _) ⟨_, rfl, Blk.new _ _ _⟩)
      clear hI hF hfact hbi hw hL hi
      refine wpOp_value_g (v := .slice (some ⟨wi.heap.size, 0, none⟩) 2 2) (w' := wi.alloc (.cells #[.string a, .string b] 9)) rfl rfl ?_ HK.out
      go_simp
    · obtain ⟨g, e1, hB⟩ : ∃ g, x.tmps[29]?.getD undef = .slice (some ⟨g, 0, none⟩) 2 2 ∧ Blk wi g 9 #[.string a, .string b] := paFact_6 s a b T k (hfact 6 (by omega) (hw 6 (of_decide_eq_true (by kernel_rfl))))
      have HC := Lib.hid ((HS2.out wi g 2 (by omega) (txts_of_blk hB rfl)).mono (fun e w'' ⟨he, h2⟩ => show ∃ v, e = Ending.returned v ∧ paInv s a b T k w1 _ (fun j => if 7 = j then true else L j) (x.put (some (23 + 7)) v) w'' from ⟨_, he, pa_next s a b T k w1 _ hI 7 _ (by omega) h2 rfl⟩))
      clear hI hF hfact hbi hw hL hi hB
      refine wpOp_call_g rfl rfl ?_ HC.out
      go_simp
    · have e0 : x.tmps[0]?.getD undef = .string s := by rw [hF.2.2 0 (by omega) (by omega)]; rfl
      have HK := Lib.hid (pa_next s a b T k w1 _ hI 8 (.string s) (by omega) (Below.refl _ _) rfl)
      clear hI hF hfact hbi hw hL hi
      refine wpOp_value_g (v := .string s) (w' := wi) rfl rfl ?_ HK.out
      go_simp
    · have e1 : x.tmps[31]?.getD undef = .string s := hfact 8 (by omega) (hw 8 (of_decide_eq_true (by kernel_rfl)))
      have HK := Lib.hid (pa_next s a b T k w1 _ hI 9 (.slice (some ⟨wi.heap.size, 0, none⟩) 1 1) (by omega) (w' := wi.alloc (.cells #[.string s] 9)) ((Below.refl _ _).alloc (Nat.le_refl _) _) ⟨_, rfl, Blk.new _ _ _⟩)
      clear hI hF hfact hbi hw hL hi
      refine wpOp_value_g (v := .slice (some ⟨wi.heap.size, 0, none⟩) 1 1) (w' := wi.alloc (.cells #[.string s] 9)) rfl rfl ?_ HK.out
      go_simp
    · obtain ⟨g, e1, hB⟩ : ∃ g, x.tmps[32]?.getD undef = .slice (some ⟨g, 0, none⟩) 1 1 ∧ Blk wi g 9 #[.string s] := paFact_9 s a b T k (hfact 9 (by omega) (hw 9 (of_decide_eq_true (by kernel_rfl))))
      have HC := Lib.hid ((HS1.out wi g 1 (by omega) (txts_of_blk hB rfl)).mono (fun e w'' ⟨he, h2⟩ => show ∃ v, e = Ending.returned v ∧ paInv s a b T k w1 _ (fun j => if 10 = j then true else L j) (x.put (some (23 + 10)) v) w'' from ⟨_, he, pa_next s a b T k w1 _ hI 10 _ (by omega) h2 rfl⟩))
      clear hI hF hfact hbi hw hL hi hB
      refine wpOp_call_g rfl rfl ?_ HC.out
      go_simp
    · have e1 : x.tmps[30]?.getD undef = .string T := hfact 7 (by omega) (hw 7 (of_decide_eq_true (by kernel_rfl)))
      have e2 : x.tmps[33]?.getD undef = .string T := hfact 10 (by omega) (hw 10 (of_decide_eq_true (by kernel_rfl)))
      have HK := Lib.hid (pa_next s a b T k w1 _ hI 11 (.bool true) (by omega) (Below.refl _ _) rfl)
      clear hI hF hfact hbi hw hL hi
      refine wpOp_value_g (v := .bool true) (w' := wi) rfl rfl ?_ HK.out
      go_simp
    · have e1 : x.tmps[34]?.getD undef = .bool true := hfact 11 (by omega) (hw 11 (of_decide_eq_true (by kernel_rfl)))
      have HK := Lib.hid (pa_next s a b T k w1 _ hI 12 (.bool true) (by omega) (Below.refl _ _) rfl)
      clear hI hF hfact hbi hw hL hi
      refine wpOp_value_g (v := .bool true) (w' := wi) rfl rfl ?_ HK.out
      go_simp
    · have e0 : x.tmps[0]?.getD undef = .string s := by rw [hF.2.2 0 (by omega) (by omega)]; rfl
      have hg12 : x.tmps[35]? = some (.bool true) := getD_some (hfact 12 (by omega) (hw 12 (of_decide_eq_true (by kernel_rfl)))) (by rw [hF.2.1]; omega)
      have HK := Lib.hid (pa_next s a b T k w1 _ hI 13 (.string s) (by omega) (Below.refl _ _) rfl)
      clear hI hF hfact hbi hw hL hi
      refine wpOp_value_g (v := .string s) (w' := wi) rfl (wanted_at rfl rfl rfl hg12) ?_ HK.out
      go_simp
    · have e0 : x.tmps[5]?.getD undef = .int .i64 (k : Int) := by rw [hF.2.2 5 (by omega) (by omega)]; rfl
      have hg12 : x.tmps[35]? = some (.bool true) := getD_some (hfact 12 (by omega) (hw 12 (of_decide_eq_true (by kernel_rfl)))) (by rw [hF.2.1]; omega)
      have HK := Lib.hid (pa_next s a b T k w1 _ hI 14 (.int .i64 (k : Int)) (by omega) (Below.refl _ _) rfl)
      clear hI hF hfact hbi hw hL hi
      refine wpOp_value_g (v := .int .i64 (k : Int)) (w' := wi) rfl (wanted_at rfl rfl rfl hg12) ?_ HK.out
      go_simp
    · have e1 : x.tmps[36]?.getD undef = .string s := hfact 13 (by omega) (hw 13 (of_decide_eq_true (by kernel_rfl)))
      have e2 : x.tmps[37]?.getD undef = .int .i64 (k : Int) := hfact 14 (by omega) (hw 14 (of_decide_eq_true (by kernel_rfl)))
      have hg12 : x.tmps[35]? = some (.bool true) := getD_some (hfact 12 (by omega) (hw 12 (of_decide_eq_true (by kernel_rfl)))) (by rw [hF.2.1]; omega)
      have ex : s.extract 0 k = a := HA.out.symm
      have HK := Lib.hid (pa_next s a b T k w1 _ hI 15 (.string a) (by omega) (Below.refl _ _) rfl)
      clear hI hF hfact hbi hw hL hi
      refine wpOp_value_g (v := .string a) (w' := wi) rfl (wanted_at rfl rfl rfl hg12) ?_ HK.out
      go_simp
    · have e0 : x.tmps[0]?.getD undef = .string s := by rw [hF.2.2 0 (by omega) (by omega)]; rfl
      have hg12 : x.tmps[35]? = some (.bool true) := getD_some (hfact 12 (by omega) (hw 12 (of_decide_eq_true (by kernel_rfl)))) (by rw [hF.2.1]; omega)
      have HK := Lib.hid (pa_next s a b T k w1 _ hI 16 (.string s) (by omega) (Below.refl _ _) rfl)
      clear hI hF hfact hbi hw hL hi
      refine wpOp_value_g (v := .string s) (w' := wi) rfl (wanted_at rfl rfl rfl hg12) ?_ HK.out
      go_simp
    · have e0 : x.tmps[5]?.getD undef = .int .i64 (k : Int) := by rw [hF.2.2 5 (by omega) (by omega)]; rfl
      have hg12 : x.tmps[35]? = some (.bool true) := getD_some (hfact 12 (by omega) (hw 12 (of_decide_eq_true (by kernel_rfl)))) (by rw [hF.2.1]; omega)
      have HK := Lib.hid (pa_next s a b T k w1 _ hI 17 (.int .i64 (k : Int)) (by omega) (Below.refl _ _) rfl)
      clear hI hF hfact hbi hw hL hi
      refine wpOp_value_g (v := .int .i64 (k : Int)) (w' := wi) rfl (wanted_at rfl rfl rfl hg12) ?_ HK.out
      go_simp
    · have e1 : x.tmps[39]?.getD undef = .string s := hfact 16 (by omega) (hw 16 (of_decide_eq_true (by kernel_rfl)))
      have e2 : x.tmps[40]?.getD undef = .int .i64 (k : Int) := hfact 17 (by omega) (hw 17 (of_decide_eq_true (by kernel_rfl)))
      have hg12 : x.tmps[35]? = some (.bool true) := getD_some (hfact 12 (by omega) (hw 12 (of_decide_eq_true (by kernel_rfl)))) (by rw [hF.2.1]; omega)
      have ex : s.extract k s.size = b := HBb.out.symm
      have HK := Lib.hid (pa_next s a b T k w1 _ hI 18 (.string b) (by omega) (Below.refl _ _) rfl)
      clear hI hF hfact hbi hw hL hi
      refine wpOp_value_g (v := .string b) (w' := wi) rfl (wanted_at rfl rfl rfl hg12) ?_ HK.out
      go_simp
    · have e1 : x.tmps[38]?.getD undef = .string a := hfact 15 (by omega) (hw 15 (of_decide_eq_true (by kernel_rfl)))
      have e2 : x.tmps[41]?.getD undef = .string b := hfact 18 (by omega) (hw 18 (of_decide_eq_true (by kernel_rfl)))
      have hg12 : x.tmps[35]? = some (.bool true) := getD_some (hfact 12 (by omega) (hw 12 (of_decide_eq_true (by kernel_rfl)))) (by rw [hF.2.1]; omega)
      have HK := Lib.hid (pa_next s a b T k w1 _ hI 19 (.slice (some ⟨wi.heap.size, 0, none⟩) 3 3) (by omega) (w' := wi.alloc (.cells #[.string a, .string ⟨#[]⟩, .string b] 9)) ((Below.refl _ _).alloc (Nat.le_refl _) _) ⟨_, rfl, Blk.new _ _ _⟩)
      clear hI hF hfact hbi hw hL hi
      refine wpOp_value_g (v := .slice (some ⟨wi.heap.size, 0, none⟩) 3 3) (w' := wi.alloc (.cells #[.string a, .string ⟨#[]⟩, .string b] 9)) rfl (wanted_at rfl rfl rfl hg12) ?_ HK.out
      go_simp
    · have hg12 : x.tmps[35]? = some (.bool true) := getD_some (hfact 12 (by omega) (hw 12 (of_decide_eq_true (by kernel_rfl)))) (by rw [hF.2.1]; omega)
      obtain ⟨g, e1, hB⟩ : ∃ g, x.tmps[42]?.getD undef = .slice (some ⟨g, 0, none⟩) 3 3 ∧ Blk wi g 9 #[.string a, .string ⟨#[]⟩, .string b] := paFact_19 s a b T k (hfact 19 (by omega) (hw 19 (of_decide_eq_true (by kernel_rfl))))
      have HC := Lib.hid ((HS3.out wi g 3 (by omega) (txts_of_blk hB rfl)).mono (fun e w'' ⟨he, h2⟩ => show ∃ v, e = Ending.returned v ∧ paInv s a b T k w1 _ (fun j => if 20 = j then true else L j) (x.put (some (23 + 20)) v) w'' from ⟨_, he, pa_next s a b T k w1 _ hI 20 _ (by omega) h2 rfl⟩))
      clear hI hF hfact hbi hw hL hi hB
      refine wpOp_call_g rfl (wanted_at rfl rfl rfl hg12) ?_ HC.out
      go_simp
    · have e0 : x.tmps[0]?.getD undef = .string s := by rw [hF.2.2 0 (by omega) (by omega)]; rfl
      have hg12 : x.tmps[35]? = some (.bool true) := getD_some (hfact 12 (by omega) (hw 12 (of_decide_eq_true (by kernel_rfl)))) (by rw [hF.2.1]; omega)
      have HK := Lib.hid (pa_next s a b T k w1 _ hI 21 (.string s) (by omega) (Below.refl _ _) rfl)
      clear hI hF hfact hbi hw hL hi
      refine wpOp_value_g (v := .string s) (w' := wi) rfl (wanted_at rfl rfl rfl hg12) ?_ HK.out
      go_simp
    · have e1 : x.tmps[44]?.getD undef = .string s := hfact 21 (by omega) (hw 21 (of_decide_eq_true (by kernel_rfl)))
      have hg12 : x.tmps[35]? = some (.bool true) := getD_some (hfact 12 (by omega) (hw 12 (of_decide_eq_true (by kernel_rfl)))) (by rw [hF.2.1]; omega)
      have HK := Lib.hid (pa_next s a b T k w1 _ hI 22 (.slice (some ⟨wi.heap.size, 0, none⟩) 1 1) (by omega) (w' := wi.alloc (.cells #[.string s] 9)) ((Below.refl _ _).alloc (Nat.le_refl _) _) ⟨_, rfl, Blk.new _ _ _⟩)
      clear hI hF hfact hbi hw hL hi
      refine wpOp_value_g (v := .slice (some ⟨wi.heap.size, 0, none⟩) 1 1) (w' := wi.alloc (.cells #[.string s] 9)) rfl (wanted_at rfl rfl rfl hg12) ?_ HK.out
      go_simp
    · have hg12 : x.tmps[35]? = some (.bool true) := getD_some (hfact 12 (by omega) (hw 12 (of_decide_eq_true (by kernel_rfl)))) (by rw [hF.2.1]; omega)
      obtain ⟨g, e1, hB⟩ : ∃ g, x.tmps[45]?.getD undef = .slice (some ⟨g, 0, none⟩) 1 1 ∧ Blk wi g 9 #[.string s] := paFact_22 s a b T k (hfact 22 (by omega) (hw 22 (of_decide_eq_true (by kernel_rfl))))
      have HC := Lib.hid ((HS1.out wi g 1 (by omega) (txts_of_blk hB rfl)).mono (fun e w'' ⟨he, h2⟩ => show ∃ v, e = Ending.returned v ∧ paInv s a b T k w1 _ (fun j => if 23 = j then true else L j) (x.put (some (23 + 23)) v) w'' from ⟨_, he, pa_next s a b T k w1 _ hI 23 _ (by omega) h2 rfl⟩))
      clear hI hF hfact hbi hw hL hi hB
      refine wpOp_call_g rfl (wanted_at rfl rfl rfl hg12) ?_ HC.out
      go_simp
    · have e1 : x.tmps[43]?.getD undef = .string T := hfact 20 (by omega) (hw 20 (of_decide_eq_true (by kernel_rfl)))
      have e2 : x.tmps[46]?.getD undef = .string T := hfact 23 (by omega) (hw 23 (of_decide_eq_true (by kernel_rfl)))
      have hg12 : x.tmps[35]? = some (.bool true) := getD_some (hfact 12 (by omega) (hw 12 (of_decide_eq_true (by kernel_rfl)))) (by rw [hF.2.1]; omega)
      have HK := Lib.hid (pa_next s a b T k w1 _ hI 24 (.bool true) (by omega) (Below.refl _ _) rfl)
      clear hI hF hfact hbi hw hL hi
      refine wpOp_value_g (v := .bool true) (w' := wi) rfl (wanted_at rfl rfl rfl hg12) ?_ HK.out
      go_simp
    · have e1 : x.tmps[35]?.getD undef = .bool true := hfact 12 (by omega) (hw 12 (of_decide_eq_true (by kernel_rfl)))
      have e2 : x.tmps[47]?.getD undef = .bool true := hfact 24 (by omega) (hw 24 (of_decide_eq_true (by kernel_rfl)))
      have HK := Lib.hid (pa_next s a b T k w1 _ hI 25 (.bool true) (by omega) (Below.refl _ _) rfl)
      clear hI hF hfact hbi hw hL hi
      refine wpOp_value_g (v := .bool true) (w' := wi) rfl rfl ?_ HK.out
      go_simp

theorem tparts_any (s : ByteArray) (at_ : Int) (w : World) (hs : s.size ≤ 140737488351232) (ha : -9223372036854775808 ≤ at_ ∧ at_ ≤ 9223372036854775807) :
    Calls Try.prog 5 #[.string s, .int .i64 at_] w fun e w' => e = .returned (.bool true) ∧ Below w.heap.size w w' := by
  by_cases h : 800 < s.size ∨ at_ < 0
  · exact tparts_out s at_ w h hs
  · obtain ⟨n, rfl⟩ : ∃ n : Nat, at_ = (n : Int) := ⟨at_.toNat, by omega⟩
    exact tparts_in s n w (by omega) (by omega)
end Go.Proofs.Ytgefaknpeflggaa
