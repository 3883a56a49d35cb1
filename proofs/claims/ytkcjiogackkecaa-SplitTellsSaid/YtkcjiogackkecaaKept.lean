/-
  A region that draws its order, whose operations write slots in a row: what stays of the frame, what each operation left. No statement is proved here.
-/
import Derived.Test.YtkcjiogackkecaaDrawn
import Derived.Test.YtkcjiogackkecaaWords
namespace Go.Proofs.Ytkcjiogackkecaa
open Go.RowKit

/-- All slots but lo to hi are as they were. -/
def FrameKept (F : Act) (lo hi : Nat) (x : Act) : Prop := x.defers = F.defers ∧ x.tmps.size = F.tmps.size ∧ ∀ s, (s < lo ∨ hi < s) → x.tmps[s]? = F.tmps[s]?
theorem FrameKept.refl (F : Act) (lo hi : Nat) : FrameKept F lo hi F := ⟨rfl, rfl, fun _ _ => rfl⟩
theorem FrameKept.put {F x : Act} {lo hi : Nat} (h : FrameKept F lo hi x) (t : Nat) (v : Value) (h1 : lo ≤ t) (h2 : t ≤ hi) : FrameKept F lo hi (x.put (some t) v) := by
  obtain ⟨h3, h4, h5⟩ := h
  refine ⟨h3, by simp [Act.put, h4], fun s hs => ?_⟩
  rw [← h5 s hs]
  simp only [Act.put]
  exact Array.getElem?_setIfInBounds_ne (by omega)
theorem FrameKept.get {F x : Act} {lo hi : Nat} (h : FrameKept F lo hi x) (s : Nat) (hs : s < lo ∨ hi < s) : x.tmps[s]?.getD undef = F.tmps[s]?.getD undef := by rw [h.2.2 s hs]
theorem put_here (x : Act) (t : Nat) (v : Value) (h : t < x.tmps.size) : (x.put (some t) v).tmps[t]?.getD undef = v := by simp [Act.put, h]
theorem put_there (x : Act) (t s : Nat) (v : Value) (h : t ≠ s) : (x.put (some t) v).tmps[s]?.getD undef = x.tmps[s]?.getD undef := by
  simp only [Act.put]
  rw [Array.getElem?_setIfInBounds_ne h]

/-- Operation i has left in slot lo + i what 'fact' says of it. -/
def Left (n lo : Nat) (fact : Nat → Value → Prop) (L : Nat → Bool) (x : Act) : Prop := ∀ i, i < n → L i = true → fact i (x.tmps[lo + i]?.getD undef)
theorem Left.next {n lo : Nat} {fact fact' : Nat → Value → Prop} {L : Nat → Bool} {x : Act} (h : Left n lo fact L x) (i : Nat) (v : Value) (hs : lo + i < x.tmps.size)
    (hk : ∀ j u, j < n → L j = true → fact j u → fact' j u) (hv : fact' i v) : Left n lo fact' (fun j => if i = j then true else L j) (x.put (some (lo + i)) v) := by
  intro j hj hL
  by_cases hij : i = j
  · subst hij
    rw [put_here x (lo + i) v hs]
    exact hv
  · simp only [if_neg hij] at hL
    rw [put_there x (lo + i) (lo + j) v (by omega)]
    exact hk j _ hj hL (h j hj hL)
theorem cons_of {l : List Value} {n : Nat} (h : l.length = n + 1) : ∃ x t, l = x :: t ∧ t.length = n := by
  match l, h with
  | x :: t, h => exact ⟨x, t, rfl, by simpa using h⟩
theorem arr26 (a : Array Value) (h : a.size = 26) : ∃ x0 x1 x2 x3 x4 x5 x6 x7 x8 x9 x10 x11 x12 x13 x14 x15 x16 x17 x18 x19 x20 x21 x22 x23 x24 x25 : Value, a = #[x0, x1, x2, x3, x4, x5, x6, x7, x8, x9, x10, x11, x12, x13, x14, x15, x16, x17, x18, x19, x20, x21, x22, x23, x24, x25] := by
  obtain ⟨l⟩ := a
  have h : l.length = 26 := h
  obtain ⟨x0, t1, e1, h1⟩ := cons_of h
  obtain ⟨x1, t2, e2, h2⟩ := cons_of h1
  obtain ⟨x2, t3, e3, h3⟩ := cons_of h2
  obtain ⟨x3, t4, e4, h4⟩ := cons_of h3
  obtain ⟨x4, t5, e5, h5⟩ := cons_of h4
  obtain ⟨x5, t6, e6, h6⟩ := cons_of h5
  obtain ⟨x6, t7, e7, h7⟩ := cons_of h6
  obtain ⟨x7, t8, e8, h8⟩ := cons_of h7
  obtain ⟨x8, t9, e9, h9⟩ := cons_of h8
  obtain ⟨x9, t10, e10, h10⟩ := cons_of h9
  obtain ⟨x10, t11, e11, h11⟩ := cons_of h10
  obtain ⟨x11, t12, e12, h12⟩ := cons_of h11
  obtain ⟨x12, t13, e13, h13⟩ := cons_of h12
  obtain ⟨x13, t14, e14, h14⟩ := cons_of h13
  obtain ⟨x14, t15, e15, h15⟩ := cons_of h14
  obtain ⟨x15, t16, e16, h16⟩ := cons_of h15
  obtain ⟨x16, t17, e17, h17⟩ := cons_of h16
  obtain ⟨x17, t18, e18, h18⟩ := cons_of h17
  obtain ⟨x18, t19, e19, h19⟩ := cons_of h18
  obtain ⟨x19, t20, e20, h20⟩ := cons_of h19
  obtain ⟨x20, t21, e21, h21⟩ := cons_of h20
  obtain ⟨x21, t22, e22, h22⟩ := cons_of h21
  obtain ⟨x22, t23, e23, h23⟩ := cons_of h22
  obtain ⟨x23, t24, e24, h24⟩ := cons_of h23
  obtain ⟨x24, t25, e25, h25⟩ := cons_of h24
  obtain ⟨x25, t26, e26, h26⟩ := cons_of h25
  have e27 := List.eq_nil_of_length_eq_zero h26
  exact ⟨x0, x1, x2, x3, x4, x5, x6, x7, x8, x9, x10, x11, x12, x13, x14, x15, x16, x17, x18, x19, x20, x21, x22, x23, x24, x25, by rw [e1, e2, e3, e4, e5, e6, e7, e8, e9, e10, e11, e12, e13, e14, e15, e16, e17, e18, e19, e20, e21, e22, e23, e24, e25, e26, e27]⟩
theorem arr47 (a : Array Value) (h : a.size = 47) : ∃ x0 x1 x2 x3 x4 x5 x6 x7 x8 x9 x10 x11 x12 x13 x14 x15 x16 x17 x18 x19 x20 x21 x22 x23 x24 x25 x26 x27 x28 x29 x30 x31 x32 x33 x34 x35 x36 x37 x38 x39 x40 x41 x42 x43 x44 x45 x46 : Value, a = #[x0, x1, x2, x3, x4, x5, x6, x7, x8, x9, x10, x11, x12, x13, x14, x15, x16, x17, x18, x19, x20, x21, x22, x23, x24, x25, x26, x27, x28, x29, x30, x31, x32, x33, x34, x35, x36, x37, x38, x39, x40, x41, x42, x43, x44, x45, x46] := by
  obtain ⟨l⟩ := a
  have h : l.length = 47 := h
  obtain ⟨x0, t1, e1, h1⟩ := cons_of h
  obtain ⟨x1, t2, e2, h2⟩ := cons_of h1
  obtain ⟨x2, t3, e3, h3⟩ := cons_of h2
  obtain ⟨x3, t4, e4, h4⟩ := cons_of h3
  obtain ⟨x4, t5, e5, h5⟩ := cons_of h4
  obtain ⟨x5, t6, e6, h6⟩ := cons_of h5
  obtain ⟨x6, t7, e7, h7⟩ := cons_of h6
  obtain ⟨x7, t8, e8, h8⟩ := cons_of h7
  obtain ⟨x8, t9, e9, h9⟩ := cons_of h8
  obtain ⟨x9, t10, e10, h10⟩ := cons_of h9
  obtain ⟨x10, t11, e11, h11⟩ := cons_of h10
  obtain ⟨x11, t12, e12, h12⟩ := cons_of h11
  obtain ⟨x12, t13, e13, h13⟩ := cons_of h12
  obtain ⟨x13, t14, e14, h14⟩ := cons_of h13
  obtain ⟨x14, t15, e15, h15⟩ := cons_of h14
  obtain ⟨x15, t16, e16, h16⟩ := cons_of h15
  obtain ⟨x16, t17, e17, h17⟩ := cons_of h16
  obtain ⟨x17, t18, e18, h18⟩ := cons_of h17
  obtain ⟨x18, t19, e19, h19⟩ := cons_of h18
  obtain ⟨x19, t20, e20, h20⟩ := cons_of h19
  obtain ⟨x20, t21, e21, h21⟩ := cons_of h20
  obtain ⟨x21, t22, e22, h22⟩ := cons_of h21
  obtain ⟨x22, t23, e23, h23⟩ := cons_of h22
  obtain ⟨x23, t24, e24, h24⟩ := cons_of h23
  obtain ⟨x24, t25, e25, h25⟩ := cons_of h24
  obtain ⟨x25, t26, e26, h26⟩ := cons_of h25
  obtain ⟨x26, t27, e27, h27⟩ := cons_of h26
  obtain ⟨x27, t28, e28, h28⟩ := cons_of h27
  obtain ⟨x28, t29, e29, h29⟩ := cons_of h28
  obtain ⟨x29, t30, e30, h30⟩ := cons_of h29
  obtain ⟨x30, t31, e31, h31⟩ := cons_of h30
  obtain ⟨x31, t32, e32, h32⟩ := cons_of h31
  obtain ⟨x32, t33, e33, h33⟩ := cons_of h32
  obtain ⟨x33, t34, e34, h34⟩ := cons_of h33
  obtain ⟨x34, t35, e35, h35⟩ := cons_of h34
  obtain ⟨x35, t36, e36, h36⟩ := cons_of h35
  obtain ⟨x36, t37, e37, h37⟩ := cons_of h36
  obtain ⟨x37, t38, e38, h38⟩ := cons_of h37
  obtain ⟨x38, t39, e39, h39⟩ := cons_of h38
  obtain ⟨x39, t40, e40, h40⟩ := cons_of h39
  obtain ⟨x40, t41, e41, h41⟩ := cons_of h40
  obtain ⟨x41, t42, e42, h42⟩ := cons_of h41
  obtain ⟨x42, t43, e43, h43⟩ := cons_of h42
  obtain ⟨x43, t44, e44, h44⟩ := cons_of h43
  obtain ⟨x44, t45, e45, h45⟩ := cons_of h44
  obtain ⟨x45, t46, e46, h46⟩ := cons_of h45
  obtain ⟨x46, t47, e47, h47⟩ := cons_of h46
  have e48 := List.eq_nil_of_length_eq_zero h47
  exact ⟨x0, x1, x2, x3, x4, x5, x6, x7, x8, x9, x10, x11, x12, x13, x14, x15, x16, x17, x18, x19, x20, x21, x22, x23, x24, x25, x26, x27, x28, x29, x30, x31, x32, x33, x34, x35, x36, x37, x38, x39, x40, x41, x42, x43, x44, x45, x46, by rw [e1, e2, e3, e4, e5, e6, e7, e8, e9, e10, e11, e12, e13, e14, e15, e16, e17, e18, e19, e20, e21, e22, e23, e24, e25, e26, e27, e28, e29, e30, e31, e32, e33, e34, e35, e36, e37, e38, e39, e40, e41, e42, e43, e44, e45, e46, e47, e48]⟩
end Go.Proofs.Ytkcjiogackkecaa
