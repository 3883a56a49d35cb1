/-
  Package chain's lay. No statement is proved here.
-/
import Derived.Test.YtolbnkpakjdnnaaGreatDoorLinkPure
import Derived.Test.YtolbnkpakjdnnaaGreatDoorRoomRead
namespace Go.Proofs.YtolbnkpakjdnnaaGreatDoor
open Go.RowKit

theorem arr37 (a : Array Value) (h : a.size = 37) : ∃ x0 x1 x2 x3 x4 x5 x6 x7 x8 x9 x10 x11 x12 x13 x14 x15 x16 x17 x18 x19 x20 x21 x22 x23 x24 x25 x26 x27 x28 x29 x30 x31 x32 x33 x34 x35 x36 : Value, a = #[x0, x1, x2, x3, x4, x5, x6, x7, x8, x9, x10, x11, x12, x13, x14, x15, x16, x17, x18, x19, x20, x21, x22, x23, x24, x25, x26, x27, x28, x29, x30, x31, x32, x33, x34, x35, x36] := by
  obtain ⟨l⟩ := a
  have h : l.length = 37 := h
  obtain ⟨x0, t1, e1, h1⟩ := cons_of h
  obtain ⟨x1, t2, e2, h2⟩ := cons_of h1
  obtain ⟨x2, t3, e3, h3⟩ := cons_of h2
  obtain ⟨x3, t4, e4, h4⟩ := cons_of h3
  obtain ⟨x4, t5, e5, h5⟩ := cons_of h4
  obtain ⟨x5, t6, e6, h6⟩ := cons_of h5
  obtain ⟨x6, t7, e7, h7⟩ := cons_of h6
  obtain ⟨x7, t8, e8, h8⟩ := cons_of h7
  obtain ⟨x8, t9, e9, h9⟩ := cons_of h8
  obtain ⟨x9, t10, e10, h10⟩ := cons_of h9
  obtain ⟨x10, t11, e11, h11⟩ := cons_of h10
  obtain ⟨x11, t12, e12, h12⟩ := cons_of h11
  obtain ⟨x12, t13, e13, h13⟩ := cons_of h12
  obtain ⟨x13, t14, e14, h14⟩ := cons_of h13
  obtain ⟨x14, t15, e15, h15⟩ := cons_of h14
  obtain ⟨x15, t16, e16, h16⟩ := cons_of h15
  obtain ⟨x16, t17, e17, h17⟩ := cons_of h16
  obtain ⟨x17, t18, e18, h18⟩ := cons_of h17
  obtain ⟨x18, t19, e19, h19⟩ := cons_of h18
  obtain ⟨x19, t20, e20, h20⟩ := cons_of h19
  obtain ⟨x20, t21, e21, h21⟩ := cons_of h20
  obtain ⟨x21, t22, e22, h22⟩ := cons_of h21
  obtain ⟨x22, t23, e23, h23⟩ := cons_of h22
  obtain ⟨x23, t24, e24, h24⟩ := cons_of h23
  obtain ⟨x24, t25, e25, h25⟩ := cons_of h24
  obtain ⟨x25, t26, e26, h26⟩ := cons_of h25
  obtain ⟨x26, t27, e27, h27⟩ := cons_of h26
  obtain ⟨x27, t28, e28, h28⟩ := cons_of h27
  obtain ⟨x28, t29, e29, h29⟩ := cons_of h28
  obtain ⟨x29, t30, e30, h30⟩ := cons_of h29
  obtain ⟨x30, t31, e31, h31⟩ := cons_of h30
  obtain ⟨x31, t32, e32, h32⟩ := cons_of h31
  obtain ⟨x32, t33, e33, h33⟩ := cons_of h32
  obtain ⟨x33, t34, e34, h34⟩ := cons_of h33
  obtain ⟨x34, t35, e35, h35⟩ := cons_of h34
  obtain ⟨x35, t36, e36, h36⟩ := cons_of h35
  obtain ⟨x36, t37, e37, h37⟩ := cons_of h36
  obtain rfl := List.eq_nil_of_length_eq_zero h37
  subst e37 e36 e35 e34 e33 e32 e31 e30 e29 e28 e27 e26 e25 e24 e23 e22 e21 e20 e19 e18 e17 e16 e15 e14 e13 e12 e11 e10 e9 e8 e7 e6 e5 e4 e3 e2 e1
  exact ⟨x0, x1, x2, x3, x4, x5, x6, x7, x8, x9, x10, x11, x12, x13, x14, x15, x16, x17, x18, x19, x20, x21, x22, x23, x24, x25, x26, x27, x28, x29, x30, x31, x32, x33, x34, x35, x36, rfl⟩
theorem ints_blk4k {w : World} {b : Nat} {k0 k1 k2 k3 : Int} (h : Blk w b 3 #[.int .i64 k0, .int .i64 k1, .int .i64 k2, .int .i64 k3]) : Ints w w.heap.size (some ⟨b, 0, none⟩) [k0, k1, k2, k3] := by
  intro _
  refine ⟨b, 0, rfl, h.lt, fun j x hx => ?_⟩
  match j, hx with
  | 0, hx => obtain rfl : k0 = x := by simpa using hx
             exact h.cell 0
  | 1, hx => obtain rfl : k1 = x := by simpa using hx
             exact h.cell 1
  | 2, hx => obtain rfl : k2 = x := by simpa using hx
             exact h.cell 2
  | 3, hx => obtain rfl : k3 = x := by simpa using hx
             exact h.cell 3
/-- The writer behind each call. -/
def linkSt (x : LK) : Nat → Wr
  | 0 | 1 => ⟨[], 0⟩
  | 2 => Wr.nums ⟨[], 0⟩ 1 [2, x.gen, x.tag, x.num]
  | 3 => (Wr.nums ⟨[], 0⟩ 1 [2, x.gen, x.tag, x.num]).nums 2 [x.refs, x.next]
  | _ => ((Wr.nums ⟨[], 0⟩ 1 [2, x.gen, x.tag, x.num]).nums 2 [x.refs, x.next]).texts [x.data]
theorem LK.Ok.st2 {x : LK} (h : x.Ok) : linkSt x 2 = ⟨allBytes 1 [2, x.gen, x.tag, x.num], 0⟩ := by
  have hf : allFit 1 [2, x.gen, x.tag, x.num] = true := by
    have h1 := h.fit
    have h2 := h.num
    simp only [allFit, List.all_cons, List.all_nil, Bool.and_true, Bool.and_eq_true]
    refine ⟨(fits_iff _ _).2 (by omega), (fits_iff _ _).2 (by omega), (fits_iff _ _).2 (by omega), (fits_iff _ _).2 (by omega)⟩
  show Wr.nums ⟨[], 0⟩ 1 [2, x.gen, x.tag, x.num] = _
  rw [nums_ok _ _ _ hf, List.nil_append]
theorem LK.Ok.st3 {x : LK} (h : x.Ok) : linkSt x 3 = ⟨allBytes 1 [2, x.gen, x.tag, x.num] ++ allBytes 2 [x.refs, x.next], 0⟩ := by
  have hf : allFit 2 [x.refs, x.next] = true := by
    have h1 := h.refs
    have h2 := h.next
    simp only [allFit, List.all_cons, List.all_nil, Bool.and_true, Bool.and_eq_true]
    exact ⟨(fits_iff _ _).2 (by omega), (fits_iff _ _).2 (by omega)⟩
  show Wr.nums (linkSt x 2) 2 [x.refs, x.next] = _
  rw [h.st2, nums_ok _ _ _ hf]
theorem LK.Ok.st4 {x : LK} (h : x.Ok) : linkSt x 4 = ⟨x.bytes, 0⟩ := by
  have hf : allShort [x.data] = true := by
    have := h.data
    simp only [allShort, List.all_cons, List.all_nil, Bool.and_true]
    exact decide_eq_true (by omega)
  show Wr.texts (linkSt x 3) [x.data] = _
  rw [h.st3, texts_ok _ _ hf]
  congr 1
  unfold LK.bytes
  simp only [allBytes, textsBytes, List.flatMap_cons, List.flatMap_nil, List.append_nil, List.append_assoc]
  rfl
def lkD (i : Nat) : Option Nat := [8, 9, 10, 11, 12, 13, 14, 15, 16, 17, 18, 19, 20, 21, 22, 23, 24, 25, 26, 27, 7, 28, 29, 3, 4][i]?
theorem lkD_inj (i j s : Nat) (_ : i < 25) (_ : j < 25) (h1 : lkD i = some s) (h2 : lkD j = some s) : i = j := slots_inj (by decide) i j s h1 h2
theorem lkD_lt (i s : Nat) (_ : i < 25) (h : lkD i = some s) : s < 37 := (by decide : ∀ x ∈ [8, 9, 10, 11, 12, 13, 14, 15, 16, 17, 18, 19, 20, 21, 22, 23, 24, 25, 26, 27, 7, 28, 29, 3, 4], x < 37) s (List.mem_of_getElem? h)
def lkC (n : Nat) : Nat := [0, 8, 14, 18, 19].getD n 0
theorem lkC_inj (i j : Nat) (hi : i < 5) (hj : j < 5) (h : lkC i = lkC j) : i = j := (by decide : ∀ i, i < 5 → ∀ j, j < 5 → lkC i = lkC j → i = j) i hi j hj h
theorem lkC_lt : ∀ i, i < 5 → lkC i < 25 := by decide
def lkF (g0 : Nat) (gen tag num refs next : Int) (B Y : ByteArray) : Nat → Value → World → Prop
  | 1, v, _ => v = .pointer (some ⟨g0, 0, none⟩)
  | 2, v, _ => v = .int .i64 gen
  | 3, v, _ => v = .pointer (some ⟨g0, 1, none⟩)
  | 4, v, _ => v = .int .i64 tag
  | 5, v, _ => v = .pointer (some ⟨g0, 2, none⟩)
  | 6, v, _ => v = .int .i64 num
  | 7, v, w => ∃ b, v = .slice (some ⟨b, 0, none⟩) 4 4 ∧ Blk w b 3 #[.int .i64 2, .int .i64 gen, .int .i64 tag, .int .i64 num]
  | 9, v, _ => v = .pointer (some ⟨g0, 3, none⟩)
  | 10, v, _ => v = .int .i64 refs
  | 11, v, _ => v = .pointer (some ⟨g0, 4, none⟩)
  | 12, v, _ => v = .int .i64 next
  | 13, v, w => ∃ b, v = .slice (some ⟨b, 0, none⟩) 2 2 ∧ Blk w b 3 #[.int .i64 refs, .int .i64 next]
  | 15, v, _ => v = .pointer (some ⟨g0, 5, none⟩)
  | 16, v, _ => v = .string B
  | 17, v, w => ∃ b, v = .slice (some ⟨b, 0, none⟩) 1 1 ∧ Blk w b 9 #[.string B]
  | 19, v, _ => v = .tuple #[.string Y, .int .i64 0]
  | 20, v, _ => v = .tuple #[.string Y, .int .i64 0]
  | 21, v, _ => v = .string Y
  | 22, v, _ => v = .int .i64 0
  | 23, v, _ => v = .string Y
  | 24, v, _ => v = .int .i64 0
  | _, _, _ => True
def lkCh (W0 : World) (x : LK) : Nat → Value → World → Prop
  | 0, _, w => Below W0.heap.size W0 w
  | 5, _, w => Below W0.heap.size W0 w
  | m, v, w => Below W0.heap.size W0 w ∧ ∃ g, v = .pointer (some ⟨g, 0, none⟩) ∧ W0.heap.size ≤ g ∧ OutAt w g (linkSt x m)
theorem lkCh_below {W0 : World} {x : LK} {m : Nat} {v : Value} {w : World} (hc : lkCh W0 x m v w) : Below W0.heap.size W0 w := by
  unfold lkCh at hc
  split at hc
  · exact hc
  · exact hc
  · exact hc.1
theorem lkCh_kept {W0 : World} {x : LK} (m : Nat) (v : Value) (w w' : World) (hc : lkCh W0 x m v w) (hg : w.grownBy w' none) : lkCh W0 x m v w' := by
  have hb := lkCh_below hc
  have hb' := below_none' hb hg hb.size
  unfold lkCh at hc ⊢
  split at hc
  · exact hb'
  · exact hb'
  · obtain ⟨_, g, hv, hW, ho⟩ := hc
    exact ⟨hb', g, hv, hW, ho.kept' hg⟩
theorem lkF_kept {g0 : Nat} {gen tag num refs next : Int} {B Y : ByteArray} (i : Nat) (v : Value) (w w' : World) (hf : lkF g0 gen tag num refs next B Y i v w) (hg : GrownT 151 w w') : lkF g0 gen tag num refs next B Y i v w' := by
  unfold lkF at hf ⊢
  split at hf <;> first
    | exact hf
    | (obtain ⟨b, hv, hb⟩ := hf; exact ⟨b, hv, hb.grownT hg (by decide)⟩)
    | trivial

set_option maxRecDepth 100000 in
set_option maxHeartbeats 8000000 in
theorem lklay_any (x : LK) (w : World) (hx : x.Ok) :
    Calls Tryz.prog 58 #[x.val] w fun e w' => e = .returned (.string (bs x.text)) ∧ Below w.heap.size w w' := by
  have S2 := Lib.hid hx.st2
  have S3 := Lib.hid hx.st3
  have S4 := Lib.hid hx.st4
  have HLE := Lib.hid hx.small
  have HSL := Lib.hid hx.sealed
  have HDS := Lib.hid hx.data
  obtain ⟨Y, hY⟩ : ∃ Y, Y = bs x.bytes := ⟨_, rfl⟩
  have HSEAL : Hid (∀ (W : World) (X : Option Addr) (cc : Nat), Txts W W.heap.size X [Y] → Calls Tryz.prog 98 #[.int .i64 256, .slice X 1 cc] W fun e w' => e = .returned (.tuple #[.string (bs x.text), .int .i64 0]) ∧ Below W.heap.size W w') := Lib.hid (fun W X cc hx' => by
    have hfit : TextsFit [Y] := by
      refine ⟨by simp, fun z hz => ?_⟩
      rw [List.mem_singleton.1 hz, hY, bs_size]
      have := HLE.out
      omega
    have := seal_any 256 X 1 cc [Y] W rfl hx' hfit
    rw [cats_one, hY, bs_list] at this
    have e : sealV 256 x.bytes = .tuple #[.string (bs x.text), .int .i64 0] := by unfold sealV; rw [HSL.out]; rfl
    rwa [e] at this)
  obtain ⟨T, hT⟩ : ∃ T, T = bs x.text := ⟨_, rfl⟩
  rw [← hT] at HSEAL ⊢
  have HYE := Lib.hid hY
  obtain ⟨f1, n1, r1, q1, d1⟩ := hx
  have HR4 : Hid (InRange [2, x.gen, x.tag, x.num]) := Lib.hid (fun z hz => by simp only [List.mem_cons, List.not_mem_nil, or_false] at hz; rcases hz with rfl | rfl | rfl | rfl <;> omega)
  have HR2 : Hid (InRange [x.refs, x.next]) := Lib.hid (fun z hz => by simp only [List.mem_cons, List.not_mem_nil, or_false] at hz; rcases hz with rfl | rfl <;> omega)
  obtain ⟨X0, hX0⟩ : ∃ X0, X0 = x := ⟨_, rfl⟩
  rw [← hX0] at S2 S3 S4
  have S4' := S4
  obtain ⟨gen, tag, num, refs, next, B, at_⟩ := x
  have HX0 := Lib.hid hX0
  have E2 : Hid (linkSt X0 2 = Wr.nums ⟨[], 0⟩ 1 [2, gen, tag, num]) := Lib.hid (by rw [hX0]; rfl)
  have E3 : Hid (linkSt X0 3 = (linkSt X0 2).nums 2 [refs, next]) := Lib.hid (by rw [hX0]; rfl)
  have E4 : Hid (linkSt X0 4 = (linkSt X0 3).texts [B]) := Lib.hid (by rw [hX0]; rfl)
  simp only at HR4 HR2 HLE HDS HYE S2 S3 S4
  clear hX0 hY hT HSL f1 n1 r1 q1 d1 S4'
  show Calls Tryz.prog 58 #[.agg #[.int .i64 gen, .int .i64 tag, .int .i64 num, .int .i64 refs, .int .i64 next, .string B, .int .i64 at_]] w _
  obtain ⟨W0, hW0⟩ : ∃ W0, W0 = w.alloc (.cells #[.int .i64 gen, .int .i64 tag, .int .i64 num, .int .i64 refs, .int .i64 next, .string B, .int .i64 at_] 103) := ⟨_, rfl⟩
  have HW0 := Lib.hid hW0
  have HB0 : Hid (Below w.heap.size w W0) := Lib.hid (by rw [hW0]; exact (Below.refl _ _).alloc (Nat.le_refl _) _)
  obtain ⟨g0, hg0⟩ : ∃ g0, g0 = w.heap.size := ⟨_, rfl⟩
  have HBLK : Hid (∀ W, Below W0.heap.size W0 W → Blk W g0 103 #[.int .i64 gen, .int .i64 tag, .int .i64 num, .int .i64 refs, .int .i64 next, .string B, .int .i64 at_]) := Lib.hid (fun W hW => by
    have : Blk W0 w.heap.size 103 #[.int .i64 gen, .int .i64 tag, .int .i64 num, .int .i64 refs, .int .i64 next, .string B, .int .i64 at_] := by rw [hW0]; exact Blk.new _ _ _
    rw [hg0]
    exact this.below hW this.lt)
  have HG0 := Lib.hid hg0
  clear hW0 hg0
  go_enter Tryz.func58, Tryz.ntmps58
  go_upto_region 1 with fail
  rw [← HG0.out]
  refine wp_region_chain_v 151 25 lkD 5 lkC (lkF g0 gen tag num refs next B Y) (lkCh W0 X0) (by kernel_rfl) (by kernel_rfl) rfl lkD_inj lkD_lt lkC_lt lkC_inj ?hcw lkF_kept lkCh_kept ?h0 ?hloose ?hchain ?hK
  case hcw =>
    intro n hn
    rcases (show n = 0 ∨ n = 1 ∨ n = 2 ∨ n = 3 by omega) with rfl | rfl | rfl | rfl <;> exact of_decide_eq_true (by kernel_rfl)
  case h0 => show Below W0.heap.size W0 _; rw [HW0.out]; exact (Below.refl _ _).drew
  case hloose =>
    intro i hi hn y w2 hf hw hch
    obtain ⟨nn, vv, _, hcc⟩ := hch
    have hbe := lkCh_below hcc
    clear hcc
    rcases (show i = 0 ∨ i = 1 ∨ i = 2 ∨ i = 3 ∨ i = 4 ∨ i = 5 ∨ i = 6 ∨ i = 7 ∨ i = 8 ∨ i = 9 ∨ i = 10 ∨ i = 11 ∨ i = 12 ∨ i = 13 ∨ i = 14 ∨ i = 15 ∨ i = 16 ∨ i = 17 ∨ i = 18 ∨ i = 19 ∨ i = 20 ∨ i = 21 ∨ i = 22 ∨ i = 23 ∨ i = 24 by omega) with rfl | rfl | rfl | rfl | rfl | rfl | rfl | rfl | rfl | rfl | rfl | rfl | rfl | rfl | rfl | rfl | rfl | rfl | rfl | rfl | rfl | rfl | rfl | rfl | rfl
    · exact absurd rfl (hn 0 (by omega))
    · have e1 : y.tmps[1]?.getD undef = .pointer (some ⟨g0, 0, none⟩) := by rw [hf.2.2 1 (by decide)]; rfl
      clear hf hw hn hbe
      refine wpOp_value (v := .pointer (some ⟨g0, 0, none⟩)) (w' := w2) rfl rfl ?_ ⟨_, rfl, (fun h => by cases h), by_refl _ _, ?_⟩
      · go_simp
      · exact (rfl : (.pointer (some ⟨g0, 0, none⟩) : Value) = _)
    · have e1 : y.tmps[9]?.getD undef = .pointer (some ⟨g0, 0, none⟩) := hw 1 (of_decide_eq_true (by kernel_rfl))
      have c1 := (HBLK.out w2 hbe).cell 0
      simp at c1
      clear hf hw hn hbe
      refine wpOp_value (v := .int .i64 gen) (w' := w2) rfl rfl ?_ ⟨_, rfl, (fun h => by cases h), by_refl _ _, ?_⟩
      · go_simp
      · exact (rfl : (.int .i64 gen : Value) = _)
    · have e1 : y.tmps[1]?.getD undef = .pointer (some ⟨g0, 0, none⟩) := by rw [hf.2.2 1 (by decide)]; rfl
      clear hf hw hn hbe
      refine wpOp_value (v := .pointer (some ⟨g0, 1, none⟩)) (w' := w2) rfl rfl ?_ ⟨_, rfl, (fun h => by cases h), by_refl _ _, ?_⟩
      · go_simp
      · exact (rfl : (.pointer (some ⟨g0, 1, none⟩) : Value) = _)
    · have e1 : y.tmps[11]?.getD undef = .pointer (some ⟨g0, 1, none⟩) := hw 3 (of_decide_eq_true (by kernel_rfl))
      have c1 := (HBLK.out w2 hbe).cell 1
      simp at c1
      clear hf hw hn hbe
      refine wpOp_value (v := .int .i64 tag) (w' := w2) rfl rfl ?_ ⟨_, rfl, (fun h => by cases h), by_refl _ _, ?_⟩
      · go_simp
      · exact (rfl : (.int .i64 tag : Value) = _)
    · have e1 : y.tmps[1]?.getD undef = .pointer (some ⟨g0, 0, none⟩) := by rw [hf.2.2 1 (by decide)]; rfl
      clear hf hw hn hbe
      refine wpOp_value (v := .pointer (some ⟨g0, 2, none⟩)) (w' := w2) rfl rfl ?_ ⟨_, rfl, (fun h => by cases h), by_refl _ _, ?_⟩
      · go_simp
      · exact (rfl : (.pointer (some ⟨g0, 2, none⟩) : Value) = _)
    · have e1 : y.tmps[13]?.getD undef = .pointer (some ⟨g0, 2, none⟩) := hw 5 (of_decide_eq_true (by kernel_rfl))
      have c1 := (HBLK.out w2 hbe).cell 2
      simp at c1
      clear hf hw hn hbe
      refine wpOp_value (v := .int .i64 num) (w' := w2) rfl rfl ?_ ⟨_, rfl, (fun h => by cases h), by_refl _ _, ?_⟩
      · go_simp
      · exact (rfl : (.int .i64 num : Value) = _)
    · have e1 : y.tmps[10]?.getD undef = .int .i64 gen := hw 2 (of_decide_eq_true (by kernel_rfl))
      have e2 : y.tmps[12]?.getD undef = .int .i64 tag := hw 4 (of_decide_eq_true (by kernel_rfl))
      have e3 : y.tmps[14]?.getD undef = .int .i64 num := hw 6 (of_decide_eq_true (by kernel_rfl))
      clear hf hw hn hbe
      refine wpOp_value (v := .slice (some ⟨w2.heap.size, 0, none⟩) 4 4) (w' := w2.alloc (.cells #[.int .i64 2, .int .i64 gen, .int .i64 tag, .int .i64 num] 3)) rfl rfl ?_ ⟨_, rfl, (fun h => by cases h), by_alloc (by_refl _ _) _, ?_⟩
      · go_simp
      · exact ⟨_, rfl, Blk.new _ _ _⟩
    · exact absurd rfl (hn 1 (by omega))
    · have e1 : y.tmps[1]?.getD undef = .pointer (some ⟨g0, 0, none⟩) := by rw [hf.2.2 1 (by decide)]; rfl
      clear hf hw hn hbe
      refine wpOp_value (v := .pointer (some ⟨g0, 3, none⟩)) (w' := w2) rfl rfl ?_ ⟨_, rfl, (fun h => by cases h), by_refl _ _, ?_⟩
      · go_simp
      · exact (rfl : (.pointer (some ⟨g0, 3, none⟩) : Value) = _)
    · have e1 : y.tmps[17]?.getD undef = .pointer (some ⟨g0, 3, none⟩) := hw 9 (of_decide_eq_true (by kernel_rfl))
      have c1 := (HBLK.out w2 hbe).cell 3
      simp at c1
      clear hf hw hn hbe
      refine wpOp_value (v := .int .i64 refs) (w' := w2) rfl rfl ?_ ⟨_, rfl, (fun h => by cases h), by_refl _ _, ?_⟩
      · go_simp
      · exact (rfl : (.int .i64 refs : Value) = _)
    · have e1 : y.tmps[1]?.getD undef = .pointer (some ⟨g0, 0, none⟩) := by rw [hf.2.2 1 (by decide)]; rfl
      clear hf hw hn hbe
      refine wpOp_value (v := .pointer (some ⟨g0, 4, none⟩)) (w' := w2) rfl rfl ?_ ⟨_, rfl, (fun h => by cases h), by_refl _ _, ?_⟩
      · go_simp
      · exact (rfl : (.pointer (some ⟨g0, 4, none⟩) : Value) = _)
    · have e1 : y.tmps[19]?.getD undef = .pointer (some ⟨g0, 4, none⟩) := hw 11 (of_decide_eq_true (by kernel_rfl))
      have c1 := (HBLK.out w2 hbe).cell 4
      simp at c1
      clear hf hw hn hbe
      refine wpOp_value (v := .int .i64 next) (w' := w2) rfl rfl ?_ ⟨_, rfl, (fun h => by cases h), by_refl _ _, ?_⟩
      · go_simp
      · exact (rfl : (.int .i64 next : Value) = _)
    · have e0 : y.tmps[18]?.getD undef = .int .i64 refs := hw 10 (of_decide_eq_true (by kernel_rfl))
      have e1 : y.tmps[20]?.getD undef = .int .i64 next := hw 12 (of_decide_eq_true (by kernel_rfl))
      clear hf hw hn hbe
      refine wpOp_value (v := .slice (some ⟨w2.heap.size, 0, none⟩) 2 2) (w' := w2.alloc (.cells #[.int .i64 refs, .int .i64 next] 3)) rfl rfl ?_ ⟨_, rfl, (fun h => by cases h), by_alloc (by_refl _ _) _, ?_⟩
      · go_simp
      · exact ⟨_, rfl, Blk.new _ _ _⟩
    · exact absurd rfl (hn 2 (by omega))
    · have e1 : y.tmps[1]?.getD undef = .pointer (some ⟨g0, 0, none⟩) := by rw [hf.2.2 1 (by decide)]; rfl
      clear hf hw hn hbe
      refine wpOp_value (v := .pointer (some ⟨g0, 5, none⟩)) (w' := w2) rfl rfl ?_ ⟨_, rfl, (fun h => by cases h), by_refl _ _, ?_⟩
      · go_simp
      · exact (rfl : (.pointer (some ⟨g0, 5, none⟩) : Value) = _)
    · have e1 : y.tmps[23]?.getD undef = .pointer (some ⟨g0, 5, none⟩) := hw 15 (of_decide_eq_true (by kernel_rfl))
      have c1 := (HBLK.out w2 hbe).cell 5
      simp at c1
      clear hf hw hn hbe
      refine wpOp_value (v := .string B) (w' := w2) rfl rfl ?_ ⟨_, rfl, (fun h => by cases h), by_refl _ _, ?_⟩
      · go_simp
      · exact (rfl : (.string B : Value) = _)
    · have e1 : y.tmps[24]?.getD undef = .string B := hw 16 (of_decide_eq_true (by kernel_rfl))
      clear hf hw hn hbe
      refine wpOp_value (v := .slice (some ⟨w2.heap.size, 0, none⟩) 1 1) (w' := w2.alloc (.cells #[.string B] 9)) rfl rfl ?_ ⟨_, rfl, (fun h => by cases h), by_alloc (by_refl _ _) _, ?_⟩
      · go_simp
      · exact ⟨_, rfl, Blk.new _ _ _⟩
    · exact absurd rfl (hn 3 (by omega))
    · exact absurd rfl (hn 4 (by omega))
    · have e1 : y.tmps[27]?.getD undef = .tuple #[.string Y, .int .i64 0] := hw 19 (of_decide_eq_true (by kernel_rfl))
      clear hf hw hn hbe
      refine wpOp_value (v := .tuple #[.string Y, .int .i64 0]) (w' := w2) rfl rfl ?_ ⟨_, rfl, (fun h => by cases h), by_refl _ _, ?_⟩
      · go_simp
      · exact (rfl : (.tuple #[.string Y, .int .i64 0] : Value) = _)
    · have e1 : y.tmps[7]?.getD undef = .tuple #[.string Y, .int .i64 0] := hw 20 (of_decide_eq_true (by kernel_rfl))
      clear hf hw hn hbe
      refine wpOp_value (v := .string Y) (w' := w2) rfl rfl ?_ ⟨_, rfl, (fun h => by cases h), by_refl _ _, ?_⟩
      · go_simp
      · exact (rfl : (.string Y : Value) = _)
    · have e1 : y.tmps[7]?.getD undef = .tuple #[.string Y, .int .i64 0] := hw 20 (of_decide_eq_true (by kernel_rfl))
      clear hf hw hn hbe
      refine wpOp_value (v := .int .i64 0) (w' := w2) rfl rfl ?_ ⟨_, rfl, (fun h => by cases h), by_refl _ _, ?_⟩
      · go_simp
      · exact (rfl : (.int .i64 0 : Value) = _)
    · have e1 : y.tmps[28]?.getD undef = .string Y := hw 21 (of_decide_eq_true (by kernel_rfl))
      clear hf hw hn hbe
      refine wpOp_value (v := .string Y) (w' := w2) rfl rfl ?_ ⟨_, rfl, (fun h => by cases h), by_refl _ _, ?_⟩
      · go_simp
      · exact (rfl : (.string Y : Value) = _)
    · have e1 : y.tmps[29]?.getD undef = .int .i64 0 := hw 22 (of_decide_eq_true (by kernel_rfl))
      clear hf hw hn hbe
      refine wpOp_value (v := .int .i64 0) (w' := w2) rfl rfl ?_ ⟨_, rfl, (fun h => by cases h), by_refl _ _, ?_⟩
      · go_simp
      · exact (rfl : (.int .i64 0 : Value) = _)
  case hchain =>
    intro m hm y w2 hf hw hch
    rcases (show m = 0 ∨ m = 1 ∨ m = 2 ∨ m = 3 ∨ m = 4 by omega) with rfl | rfl | rfl | rfl | rfl
    · have hbe : Below W0.heap.size W0 w2 := hch
      clear hf hw hch
      change wpOp _ _ _ 0 _ _ _
      refine wpOp_value (v := .pointer (some ⟨w2.heap.size, 0, none⟩)) (w' := w2.alloc (.cells #[.pointer none, .int .i64 0, .int .i64 0] 151)) rfl rfl ?_ ⟨_, rfl, (fun h => by cases h), GrownT.of_none (by_alloc (by_refl _ _) _), ⟨hbe.alloc hbe.size _, _, rfl, hbe.size, OutAt.new w2⟩, trivial⟩
      go_simp
    · obtain ⟨hbe, g, hg, hgW, ho⟩ := hch
      have e1 : y.tmps[8]?.getD undef = .pointer (some ⟨g, 0, none⟩) := hg
      obtain ⟨b, e2, hbk⟩ : ∃ b, y.tmps[15]?.getD undef = .slice (some ⟨b, 0, none⟩) 4 4 ∧ Blk w2 b 3 #[.int .i64 2, .int .i64 gen, .int .i64 tag, .int .i64 num] := hw 7 (of_decide_eq_true (by kernel_rfl))
      clear hf hw hg
      change wpOp _ _ _ 8 _ _ _
      refine wpOp_call (f := 94) (args := #[.pointer (some ⟨g, 0, none⟩), .slice (some ⟨b, 0, none⟩) 4 4]) rfl rfl (by go_simp) ((out_byte g _ _ 4 4 [2, gen, tag, num] w2 rfl (ints_blk4k hbk) (by simp) HR4.out ho (by simp [linkSt])).mono ?_)
      rintro e w3 ⟨rfl, h3, hg3⟩
      refine ⟨_, rfl, _, rfl, (fun h => by cases h), ho.grownT' hg3, ⟨below_by_new hbe hg3 hgW, g, rfl, hgW, ?_⟩, trivial⟩
      show OutAt w3 g (linkSt X0 2)
      rw [E2.out]
      exact h3
    · obtain ⟨hbe, g, hg, hgW, ho⟩ := hch
      have e1 : y.tmps[16]?.getD undef = .pointer (some ⟨g, 0, none⟩) := hg
      obtain ⟨b, e2, hbk⟩ : ∃ b, y.tmps[21]?.getD undef = .slice (some ⟨b, 0, none⟩) 2 2 ∧ Blk w2 b 3 #[.int .i64 refs, .int .i64 next] := hw 13 (of_decide_eq_true (by kernel_rfl))
      clear hf hw hg
      change wpOp _ _ _ 14 _ _ _
      refine wpOp_call (f := 95) (args := #[.pointer (some ⟨g, 0, none⟩), .slice (some ⟨b, 0, none⟩) 2 2]) rfl rfl (by go_simp) ((out_half g _ _ 2 2 [refs, next] w2 rfl (ints_blk2 hbk) (by simp) HR2.out ho (by rw [S2.out]; show (allBytes 1 _).length ≤ _; rw [allBytes_length]; simp)).mono ?_)
      rintro e w3 ⟨rfl, h3, hg3⟩
      refine ⟨_, rfl, _, rfl, (fun h => by cases h), ho.grownT' hg3, ⟨below_by_new hbe hg3 hgW, g, rfl, hgW, ?_⟩, trivial⟩
      show OutAt w3 g (linkSt X0 3)
      rw [E3.out]
      exact h3
    · obtain ⟨hbe, g, hg, hgW, ho⟩ := hch
      have e1 : y.tmps[22]?.getD undef = .pointer (some ⟨g, 0, none⟩) := hg
      obtain ⟨b, e2, hbk⟩ : ∃ b, y.tmps[25]?.getD undef = .slice (some ⟨b, 0, none⟩) 1 1 ∧ Blk w2 b 9 #[.string B] := hw 17 (of_decide_eq_true (by kernel_rfl))
      clear hf hw hg
      change wpOp _ _ _ 18 _ _ _
      refine wpOp_call (f := 96) (args := #[.pointer (some ⟨g, 0, none⟩), .slice (some ⟨b, 0, none⟩) 1 1]) rfl rfl (by go_simp) ((out_text g _ _ 1 1 [B] w2 rfl (txts_one hbk) (by simp) (by have := HDS.out; simp only [textsBytes, List.flatMap_cons, List.flatMap_nil, List.append_nil]; rw [textBytes_len]; omega) ho (by rw [S3.out]; show (allBytes 1 _ ++ allBytes 2 _).length ≤ _; rw [List.length_append, allBytes_length, allBytes_length]; simp)).mono ?_)
      rintro e w3 ⟨rfl, h3, hg3⟩
      refine ⟨_, rfl, _, rfl, (fun h => by cases h), ho.grownT' hg3, ⟨below_by_new hbe hg3 hgW, g, rfl, hgW, ?_⟩, trivial⟩
      show OutAt w3 g (linkSt X0 4)
      rw [E4.out]
      exact h3
    · obtain ⟨hbe, g, hg, hgW, ho⟩ := hch
      have e1 : y.tmps[26]?.getD undef = .pointer (some ⟨g, 0, none⟩) := hg
      have HFIN := fin_any g _ w2 ho (by rw [S4.out]; exact Wr.ok_zero _) (by rw [S4.out, HX0.out]; have := HLE.out; show (LK.bytes _).length ≤ _; omega)
      rw [S4.out] at HFIN
      clear hf hw hg
      change wpOp _ _ _ 19 _ _ _
      refine wpOp_call (f := 97) (args := #[.pointer (some ⟨g, 0, none⟩)]) rfl rfl (by go_simp) (HFIN.mono ?_)
      rintro e w3 ⟨rfl, _, hb3⟩
      refine ⟨_, rfl, _, rfl, (fun h => by cases h), GrownT.of_none (by_below hb3 (Nat.le_refl _)), hbe.trans (hb3.mono hbe.size), ?_⟩
      show _ = _
      rw [HYE.out, HX0.out]
      rfl
  case hK =>
    intro y w2 hf hv hch
    have hbe : Below W0.heap.size W0 w2 := hch
    have e3 : y.tmps[3]?.getD undef = .string Y := hv 23 (by omega)
    have hd : y.defers = [] := hf.1
    have hsz : y.tmps.size = 37 := hf.2.1
    obtain ⟨tt, dd⟩ := y
    obtain rfl : dd = [] := hd
    have hsz : tt.size = 37 := hsz
    have e3' : tt[3]?.getD undef = .string Y := e3
    have HBE : Hid (Below w.heap.size w w2) := Lib.hid (HB0.out.trans (hbe.mono HB0.out.size))
    clear hf hv e3 hbe hch
    obtain ⟨x0, x1, x2, x3, x4, x5, x6, x7, x8, x9, x10, x11, x12, x13, x14, x15, x16, x17, x18, x19, x20, x21, x22, x23, x24, x25, x26, x27, x28, x29, x30, x31, x32, x33, x34, x35, x36, rfl⟩ := arr37 tt hsz
    obtain rfl : x3 = .string Y := by simpa using e3'
    clear e3' hsz
    go_wp2_with fail
    refine (HSEAL.out _ _ _ (txts_at _ _ _ _ rfl rfl)).mono ?_
    rintro e w4 ⟨rfl, hb4⟩
    have HB4 := Lib.hid hb4
    clear hb4
    go_wp2_with fail
    go_ret
    exact ⟨rfl, (HBE.out.alloc HBE.out.size _).trans (HB4.out.mono (by have := HBE.out.size; simp; omega))⟩
end Go.Proofs.YtolbnkpakjdnnaaGreatDoor
