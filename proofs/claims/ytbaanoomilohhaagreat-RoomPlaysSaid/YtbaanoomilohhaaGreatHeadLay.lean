/-
  Package head's Lay. No statement is proved here.
-/
import Derived.Test.YtbaanoomilohhaaGreatHeadSmall
import Derived.Test.YtbaanoomilohhaaGreatCrcSeal
import Derived.Test.YtbaanoomilohhaaGreatChain
namespace Go.Proofs.YtbaanoomilohhaaGreat
open Go.RowKit

theorem ints_blk1 {w : World} {b : Nat} {k : Int} (h : Blk w b 3 #[.int .i64 k]) : Ints w w.heap.size (some ⟨b, 0, none⟩) [k] := by
  intro _
  refine ⟨b, 0, rfl, h.lt, fun j x hx => ?_⟩
  match j, hx with
  | 0, hx =>
    obtain rfl : k = x := by simpa using hx
    exact h.cell 0
theorem ints_blk2 {w : World} {b : Nat} {k m : Int} (h : Blk w b 3 #[.int .i64 k, .int .i64 m]) : Ints w w.heap.size (some ⟨b, 0, none⟩) [k, m] := by
  intro _
  refine ⟨b, 0, rfl, h.lt, fun j x hx => ?_⟩
  match j, hx with
  | 0, hx =>
    obtain rfl : k = x := by simpa using hx
    exact h.cell 0
  | 1, hx =>
    obtain rfl : m = x := by simpa using hx
    exact h.cell 1
theorem OutAt.grownT' {w w' : World} {o : Nat} {s : Wr} (h : OutAt w o s) (hg : w.grownBy w' (some o)) : GrownT 71 w w' := by
  obtain ⟨p, r, hb, _⟩ := h
  exact GrownT.of_by hg hb
theorem OutAt.kept' {w w' : World} {o : Nat} {s : Wr} (h : OutAt w o s) (hg : w.grownBy w' none) : OutAt w' o s := h.below (below_by hg)

def hlD (i : Nat) : Option Nat := [13, 14, 15, 16, 17, 18, 19, 20, 21, 22, 23, 24, 25, 26, 27, 28, 5][i]?
theorem hlD_inj (i j s : Nat) (_ : i < 17) (_ : j < 17) (h1 : hlD i = some s) (h2 : hlD j = some s) : i = j := slots_inj (by decide) i j s h1 h2
theorem hlD_lt (i s : Nat) (_ : i < 17) (h : hlD i = some s) : s < 39 := (by decide : ∀ x ∈ [13, 14, 15, 16, 17, 18, 19, 20, 21, 22, 23, 24, 25, 26, 27, 28, 5], x < 39) s (List.mem_of_getElem? h)
def hlC (n : Nat) : Nat := [0, 3, 7, 12, 15, 16].getD n 0
theorem hlC_inj (i j : Nat) (hi : i < 6) (hj : j < 6) (h : hlC i = hlC j) : i = j := (by decide : ∀ i, i < 6 → ∀ j, j < 6 → hlC i = hlC j → i = j) i hi j hj h
theorem hlC_lt : ∀ i, i < 6 → hlC i < 17 := by decide
def hlF (B : Nat) (h : HD) (A : Option Addr) (c : Nat) : Nat → Value → World → Prop
  | 1, v, _ => v = .int .i64 (bitN h.full : Int)
  | 2, v, w => ∃ b, v = .slice (some ⟨b, 0, none⟩) 2 2 ∧ Blk w b 3 #[.int .i64 7, .int .i64 (bitN h.full : Int)]
  | 4, v, _ => v = .pointer (some ⟨B, 0, none⟩)
  | 5, v, _ => v = .int .i64 h.seq
  | 6, v, w => ∃ b, v = .slice (some ⟨b, 0, none⟩) 1 1 ∧ Blk w b 3 #[.int .i64 h.seq]
  | 8, v, _ => v = .pointer (some ⟨B, 2, none⟩)
  | 9, v, _ => v = .slice A h.ts.length c
  | 10, v, _ => v = .int .i64 (h.ts.length : Int)
  | 11, v, w => ∃ b, v = .slice (some ⟨b, 0, none⟩) 1 1 ∧ Blk w b 3 #[.int .i64 (h.ts.length : Int)]
  | 13, v, _ => v = .pointer (some ⟨B, 2, none⟩)
  | 14, v, _ => v = .slice A h.ts.length c
  | _, _, _ => True
def hlCh (W0 : World) (h : HD) : Nat → Value → World → Prop
  | 0, _, w => Below W0.heap.size W0 w
  | 6, v, w => Below W0.heap.size W0 w ∧ ∃ g, v = .pointer (some ⟨g, 0, none⟩) ∧ W0.heap.size ≤ g ∧ OutAt w g (headSt h 5)
  | n, v, w => Below W0.heap.size W0 w ∧ ∃ g, v = .pointer (some ⟨g, 0, none⟩) ∧ W0.heap.size ≤ g ∧ OutAt w g (headSt h n)
theorem hlCh_below {W0 : World} {h : HD} {n : Nat} {v : Value} {w : World} (hc : hlCh W0 h n v w) : Below W0.heap.size W0 w := by
  unfold hlCh at hc
  split at hc
  · exact hc
  · exact hc.1
  · exact hc.1
theorem below_none' {B : Nat} {w w' w'' : World} (h : Below B w w') (hg : w'.grownBy w'' none) (hB : B ≤ w'.heap.size) : Below B w w'' := h.trans ((below_by hg).mono hB)
theorem hlCh_kept {W0 : World} {h : HD} (n : Nat) (v : Value) (w w' : World) (hc : hlCh W0 h n v w) (hg : w.grownBy w' none) : hlCh W0 h n v w' := by
  have hb := hlCh_below hc
  have hb' := below_none' hb hg hb.size
  unfold hlCh at hc ⊢
  split at hc
  · exact hb'
  · obtain ⟨_, g, hv, hW, ho⟩ := hc
    exact ⟨hb', g, hv, hW, ho.kept' hg⟩
  · obtain ⟨_, g, hv, hW, ho⟩ := hc
    exact ⟨hb', g, hv, hW, ho.kept' hg⟩
theorem hlF_kept {B : Nat} {h : HD} {A : Option Addr} {c : Nat} (i : Nat) (v : Value) (w w' : World) (hf : hlF B h A c i v w) (hg : GrownT 71 w w') : hlF B h A c i v w' := by
  unfold hlF at hf ⊢
  split at hf <;> first
    | exact hf
    | (obtain ⟨b, hv, hb⟩ := hf; exact ⟨b, hv, hb.grownT hg (by decide)⟩)
    | trivial
theorem arr39 (a : Array Value) (h : a.size = 39) : ∃ x0 x1 x2 x3 x4 x5 x6 x7 x8 x9 x10 x11 x12 x13 x14 x15 x16 x17 x18 x19 x20 x21 x22 x23 x24 x25 x26 x27 x28 x29 x30 x31 x32 x33 x34 x35 x36 x37 x38 : Value, a = #[x0, x1, x2, x3, x4, x5, x6, x7, x8, x9, x10, x11, x12, x13, x14, x15, x16, x17, x18, x19, x20, x21, x22, x23, x24, x25, x26, x27, x28, x29, x30, x31, x32, x33, x34, x35, x36, x37, x38] := by
  obtain ⟨l⟩ := a
  have h : l.length = 39 := h
  obtain ⟨x0, t1, e1, h1⟩ := cons_of h
  obtain ⟨x1, t2, e2, h2⟩ := cons_of h1
  obtain ⟨x2, t3, e3, h3⟩ := cons_of h2
  obtain ⟨x3, t4, e4, h4⟩ := cons_of h3
  obtain ⟨x4, t5, e5, h5⟩ := cons_of h4
  obtain ⟨x5, t6, e6, h6⟩ := cons_of h5
  obtain ⟨x6, t7, e7, h7⟩ := cons_of h6
  obtain ⟨x7, t8, e8, h8⟩ := cons_of h7
  obtain ⟨x8, t9, e9, h9⟩ := cons_of h8
  obtain ⟨x9, t10, e10, h10⟩ := cons_of h9
  obtain ⟨x10, t11, e11, h11⟩ := cons_of h10
  obtain ⟨x11, t12, e12, h12⟩ := cons_of h11
  obtain ⟨x12, t13, e13, h13⟩ := cons_of h12
  obtain ⟨x13, t14, e14, h14⟩ := cons_of h13
  obtain ⟨x14, t15, e15, h15⟩ := cons_of h14
  obtain ⟨x15, t16, e16, h16⟩ := cons_of h15
  obtain ⟨x16, t17, e17, h17⟩ := cons_of h16
  obtain ⟨x17, t18, e18, h18⟩ := cons_of h17
  obtain ⟨x18, t19, e19, h19⟩ := cons_of h18
  obtain ⟨x19, t20, e20, h20⟩ := cons_of h19
  obtain ⟨x20, t21, e21, h21⟩ := cons_of h20
  obtain ⟨x21, t22, e22, h22⟩ := cons_of h21
  obtain ⟨x22, t23, e23, h23⟩ := cons_of h22
  obtain ⟨x23, t24, e24, h24⟩ := cons_of h23
  obtain ⟨x24, t25, e25, h25⟩ := cons_of h24
  obtain ⟨x25, t26, e26, h26⟩ := cons_of h25
  obtain ⟨x26, t27, e27, h27⟩ := cons_of h26
  obtain ⟨x27, t28, e28, h28⟩ := cons_of h27
  obtain ⟨x28, t29, e29, h29⟩ := cons_of h28
  obtain ⟨x29, t30, e30, h30⟩ := cons_of h29
  obtain ⟨x30, t31, e31, h31⟩ := cons_of h30
  obtain ⟨x31, t32, e32, h32⟩ := cons_of h31
  obtain ⟨x32, t33, e33, h33⟩ := cons_of h32
  obtain ⟨x33, t34, e34, h34⟩ := cons_of h33
  obtain ⟨x34, t35, e35, h35⟩ := cons_of h34
  obtain ⟨x35, t36, e36, h36⟩ := cons_of h35
  obtain ⟨x36, t37, e37, h37⟩ := cons_of h36
  obtain ⟨x37, t38, e38, h38⟩ := cons_of h37
  obtain ⟨x38, t39, e39, h39⟩ := cons_of h38
  obtain rfl := List.eq_nil_of_length_eq_zero h39
  subst e39 e38 e37 e36 e35 e34 e33 e32 e31 e30 e29 e28 e27 e26 e25 e24 e23 e22 e21 e20 e19 e18 e17 e16 e15 e14 e13 e12 e11 e10 e9 e8 e7 e6 e5 e4 e3 e2 e1
  exact ⟨x0, x1, x2, x3, x4, x5, x6, x7, x8, x9, x10, x11, x12, x13, x14, x15, x16, x17, x18, x19, x20, x21, x22, x23, x24, x25, x26, x27, x28, x29, x30, x31, x32, x33, x34, x35, x36, x37, x38, rfl⟩
theorem bitN_val (b : Bool) : (bitN b : Int) = if b then 1 else 0 := by cases b <;> rfl

end Go.Proofs.YtbaanoomilohhaaGreat
