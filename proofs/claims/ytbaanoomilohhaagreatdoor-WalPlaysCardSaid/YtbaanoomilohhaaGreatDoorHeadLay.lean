/-
  Package head's Lay. No statement is proved here.
-/
import Derived.Test.YtbaanoomilohhaaGreatDoorHeadSmall
import Derived.Test.YtbaanoomilohhaaGreatDoorCrcSeal
import Derived.Test.YtbaanoomilohhaaGreatDoorChain
namespace Go.Proofs.YtbaanoomilohhaaGreatDoor
open Go.RowKit

theorem ints_blk1 {w : World} {b : Nat} {k : Int} (h : Blk w b 3 #[.int .i64 k]) : Ints w w.heap.size (some ⟨b, 0, none⟩) [k] := by
  intro _
  refine ⟨b, 0, rfl, h.lt, fun j x hx => ?_⟩
  match j, hx with
  | 0, hx =>
    obtain rfl : k = x := by simpa using hx
    exact h.cell 0
theorem ints_blk2 {w : World} {b : Nat} {k m : Int} (h : Blk w b 3 #[.int .i64 k, .int .i64 m]) : Ints w w.heap.size (some ⟨b, 0, none⟩) [k, m] := by
  intro _
  refine ⟨b, 0, rfl, h.lt, fun j x hx => ?_⟩
  match j, hx with
  | 0, hx =>
    obtain rfl : k = x := by simpa using hx
    exact h.cell 0
  | 1, hx =>
    obtain rfl : m = x := by simpa using hx
    exact h.cell 1
theorem OutAt.grownT' {w w' : World} {o : Nat} {s : Wr} (h : OutAt w o s) (hg : w.grownBy w' (some o)) : GrownT 119 w w' := by
  obtain ⟨p, r, hb, _⟩ := h
  exact GrownT.of_by hg hb
theorem OutAt.kept' {w w' : World} {o : Nat} {s : Wr} (h : OutAt w o s) (hg : w.grownBy w' none) : OutAt w' o s := h.below (below_by hg)

def hlD (i : Nat) : Option Nat := [13, 14, 15, 16, 17, 18, 19, 20, 21, 22, 23, 24, 25, 26, 27, 28, 5][i]?
theorem hlD_inj (i j s : Nat) (_ : i < 17) (_ : j < 17) (h1 : hlD i = some s) (h2 : hlD j = some s) : i = j := slots_inj (by decide) i j s h1 h2
theorem hlD_lt (i s : Nat) (_ : i < 17) (h : hlD i = some s) : s < 39 := (by decide : ∀ x ∈ [13, 14, 15, 16, 17, 18, 19, 20, 21, 22, 23, 24, 25, 26, 27, 28, 5], x < 39) s (List.mem_of_getElem? h)
def hlC (n : Nat) : Nat := [0, 3, 7, 12, 15, 16].getD n 0
theorem hlC_inj (i j : Nat) (hi : i < 6) (hj : j < 6) (h : hlC i = hlC j) : i = j := (by decide : ∀ i, i < 6 → ∀ j, j < 6 → hlC i = hlC j → i = j) i hi j hj h
theorem hlC_lt : ∀ i, i < 6 → hlC i < 17 := by decide
def hlF (B : Nat) (h : HD) (A : Option Addr) (c : Nat) : Nat → Value → World → Prop
  | 1, v, _ => v = .int .i64 (bitN h.full : Int)
  | 2, v, w => ∃ b, v = .slice (some ⟨b, 0, none⟩) 2 2 ∧ Blk w b 3 #[.int .i64 7, .int .i64 (bitN h.full : Int)]
  | 4, v, _ => v = .pointer (some ⟨B, 0, none⟩)
  | 5, v, _ => v = .int .i64 h.seq
  | 6, v, w => ∃ b, v = .slice (some ⟨b, 0, none⟩) 1 1 ∧ Blk w b 3 #[.int .i64 h.seq]
  | 8, v, _ => v = .pointer (some ⟨B, 2, none⟩)
  | 9, v, _ => v = .slice A h.ts.length c
  | 10, v, _ => v = .int .i64 (h.ts.length : Int)
  | 11, v, w => ∃ b, v = .slice (some ⟨b, 0, none⟩) 1 1 ∧ Blk w b 3 #[.int .i64 (h.ts.length : Int)]
  | 13, v, _ => v = .pointer (some ⟨B, 2, none⟩)
  | 14, v, _ => v = .slice A h.ts.length c
  | _, _, _ => True
def hlCh (W0 : World) (h : HD) : Nat → Value → World → Prop
  | 0, _, w => Below W0.heap.size W0 w
  | 6, v, w => Below W0.heap.size W0 w ∧ ∃ g, v = .pointer (some ⟨g, 0, none⟩) ∧ W0.heap.size ≤ g ∧ OutAt w g (headSt h 5)
  | n, v, w => Below W0.heap.size W0 w ∧ ∃ g, v = .pointer (some ⟨g, 0, none⟩) ∧ W0.heap.size ≤ g ∧ OutAt w g (headSt h n)
theorem hlCh_below {W0 : World} {h : HD} {n : Nat} {v : Value} {w : World} (hc : hlCh W0 h n v w) : Below W0.heap.size W0 w := by
  unfold hlCh at hc
  split at hc
  · exact hc
  · exact hc.1
  · exact hc.1
theorem below_none' {B : Nat} {w w' w'' : World} (h : Below B w w') (hg : w'.grownBy w'' none) (hB : B ≤ w'.heap.size) : Below B w w'' := h.trans ((below_by hg).mono hB)
theorem hlCh_kept {W0 : World} {h : HD} (n : Nat) (v : Value) (w w' : World) (hc : hlCh W0 h n v w) (hg : w.grownBy w' none) : hlCh W0 h n v w' := by
  have hb := hlCh_below hc
  have hb' := below_none' hb hg hb.size
  unfold hlCh at hc ⊢
  split at hc
  · exact hb'
  · obtain ⟨_, g, hv, hW, ho⟩ := hc
    exact ⟨hb', g, hv, hW, ho.kept' hg⟩
  · obtain ⟨_, g, hv, hW, ho⟩ := hc
    exact ⟨hb', g, hv, hW, ho.kept' hg⟩
theorem hlF_kept {B : Nat} {h : HD} {A : Option Addr} {c : Nat} (i : Nat) (v : Value) (w w' : World) (hf : hlF B h A c i v w) (hg : GrownT 119 w w') : hlF B h A c i v w' := by
  unfold hlF at hf ⊢
  split at hf <;> first
    | exact hf
    | (obtain ⟨b, hv, hb⟩ := hf; exact ⟨b, hv, hb.grownT hg (by decide)⟩)
    | trivial
theorem arr39 (a : Array Value) (h : a.size = 39) : ∃ x0 x1 x2 x3 x4 x5 x6 x7 x8 x9 x10 x11 x12 x13 x14 x15 x16 x17 x18 x19 x20 x21 x22 x23 x24 x25 x26 x27 x28 x29 x30 x31 x32 x33 x34 x35 x36 x37 x38 : Value, a = #[x0, x1, x2, x3, x4, x5, x6, x7, x8, x9, x10, x11, x12, x13, x14, x15, x16, x17, x18, x19, x20, x21, x22, x23, x24, x25, x26, x27, x28, x29, x30, x31, x32, x33, x34, x35, x36, x37, x38] := by
  obtain ⟨l⟩ := a
  have h : l.length = 39 := h
  obtain ⟨x0, t1, e1, h1⟩ := cons_of h
  obtain ⟨x1, t2, e2, h2⟩ := cons_of h1
  obtain ⟨x2, t3, e3, h3⟩ := cons_of h2
  obtain ⟨x3, t4, e4, h4⟩ := cons_of h3
  obtain ⟨x4, t5, e5, h5⟩ := cons_of h4
  obtain ⟨x5, t6, e6, h6⟩ := cons_of h5
  obtain ⟨x6, t7, e7, h7⟩ := cons_of h6
  obtain ⟨x7, t8, e8, h8⟩ := cons_of h7
  obtain ⟨x8, t9, e9, h9⟩ := cons_of h8
  obtain ⟨x9, t10, e10, h10⟩ := cons_of h9
  obtain ⟨x10, t11, e11, h11⟩ := cons_of h10
  obtain ⟨x11, t12, e12, h12⟩ := cons_of h11
  obtain ⟨x12, t13, e13, h13⟩ := cons_of h12
  obtain ⟨x13, t14, e14, h14⟩ := cons_of h13
  obtain ⟨x14, t15, e15, h15⟩ := cons_of h14
  obtain ⟨x15, t16, e16, h16⟩ := cons_of h15
  obtain ⟨x16, t17, e17, h17⟩ := cons_of h16
  obtain ⟨x17, t18, e18, h18⟩ := cons_of h17
  obtain ⟨x18, t19, e19, h19⟩ := cons_of h18
  obtain ⟨x19, t20, e20, h20⟩ := cons_of h19
  obtain ⟨x20, t21, e21, h21⟩ := cons_of h20
  obtain ⟨x21, t22, e22, h22⟩ := cons_of h21
  obtain ⟨x22, t23, e23, h23⟩ := cons_of h22
  obtain ⟨x23, t24, e24, h24⟩ := cons_of h23
  obtain ⟨x24, t25, e25, h25⟩ := cons_of h24
  obtain ⟨x25, t26, e26, h26⟩ := cons_of h25
  obtain ⟨x26, t27, e27, h27⟩ := cons_of h26
  obtain ⟨x27, t28, e28, h28⟩ := cons_of h27
  obtain ⟨x28, t29, e29, h29⟩ := cons_of h28
  obtain ⟨x29, t30, e30, h30⟩ := cons_of h29
  obtain ⟨x30, t31, e31, h31⟩ := cons_of h30
  obtain ⟨x31, t32, e32, h32⟩ := cons_of h31
  obtain ⟨x32, t33, e33, h33⟩ := cons_of h32
  obtain ⟨x33, t34, e34, h34⟩ := cons_of h33
  obtain ⟨x34, t35, e35, h35⟩ := cons_of h34
  obtain ⟨x35, t36, e36, h36⟩ := cons_of h35
  obtain ⟨x36, t37, e37, h37⟩ := cons_of h36
  obtain ⟨x37, t38, e38, h38⟩ := cons_of h37
  obtain ⟨x38, t39, e39, h39⟩ := cons_of h38
  obtain rfl := List.eq_nil_of_length_eq_zero h39
  subst e39 e38 e37 e36 e35 e34 e33 e32 e31 e30 e29 e28 e27 e26 e25 e24 e23 e22 e21 e20 e19 e18 e17 e16 e15 e14 e13 e12 e11 e10 e9 e8 e7 e6 e5 e4 e3 e2 e1
  exact ⟨x0, x1, x2, x3, x4, x5, x6, x7, x8, x9, x10, x11, x12, x13, x14, x15, x16, x17, x18, x19, x20, x21, x22, x23, x24, x25, x26, x27, x28, x29, x30, x31, x32, x33, x34, x35, x36, x37, x38, rfl⟩
theorem bitN_val (b : Bool) : (bitN b : Int) = if b then 1 else 0 := by cases b <;> rfl

set_option maxRecDepth 100000 in
set_option maxHeartbeats 8000000 in
theorem hlay_valid (h : HD) (A : Option Addr) (c : Nat) (w : World) (ha : h.At w A c) (hvb : h.validB = true) :
    Calls Tryz.prog 55 #[h.val A c] w fun e w' => e = .returned (.tuple #[.string (bs h.text), .int .i64 0]) ∧ Below w.heap.size w w' := by
  have hv := HD.valid_of hvb
  have HV : Hid (∀ W, Below w.heap.size w W → Calls Tryz.prog 78 #[h.val A c] W fun e w' => e = .returned (.bool true) ∧ Below W.heap.size W w') := Lib.hid (fun W hb => by have := hvalid_any h A c W (ha.below hb); rwa [hvb] at this)
  have S2 := Lib.hid (headSt_two h)
  have S3 := Lib.hid (headSt_three hv)
  have S4 := Lib.hid (headSt_four hv)
  have S5 := Lib.hid (headSt_five hv)
  have HVV := Lib.hid hv
  have HLIE := Lib.hid ha.lie
  have HSEAL : Hid (∀ (W : World) (X : Option Addr) (cc : Nat), Txts W W.heap.size X [bs h.bytes] → Calls Tryz.prog 83 #[.int .i64 256, .slice X 1 cc] W fun e w' => e = .returned (.tuple #[.string (bs h.text), .int .i64 0]) ∧ Below W.heap.size W w') := Lib.hid (fun W X cc hx => by
    have hfit : TextsFit [bs h.bytes] := by
      have hl := h.len
      have h2 := hv.few
      refine ⟨by simp, fun x hx => ?_⟩
      rw [List.mem_singleton.1 hx, bs_size]
      omega
    have := seal_any 256 X 1 cc [bs h.bytes] W rfl hx hfit
    rw [cats_one, bs_list] at this
    have e : sealV 256 h.bytes = .tuple #[.string (bs h.text), .int .i64 0] := by unfold sealV; rw [hv.sealed]; rfl
    rwa [e] at this)
  obtain ⟨T, hT⟩ : ∃ T, T = bs h.text := ⟨_, rfl⟩
  rw [← hT] at HSEAL ⊢
  obtain ⟨Y, hY⟩ : ∃ Y, Y = bs h.bytes := ⟨_, rfl⟩
  rw [← hY] at HSEAL
  have HYE := Lib.hid hY
  have HR2 : Hid (InRange [7, (bitN h.full : Int)]) := Lib.hid (by
    intro x hx
    have := bitN_lt h.full
    simp at hx
    rcases hx with rfl | rfl <;> omega)
  have HRS : Hid (InRange [h.seq]) := Lib.hid (inRange_one (by have := hv.seq; omega) (by have := hv.seq; omega))
  have HRN : Hid (InRange [(h.ts.length : Int)]) := Lib.hid (inRange_one (by omega) (by have := hv.few; omega))
  have HRT : Hid (InRange h.ts) := Lib.hid (fun x hx => by have := hv.range x hx; omega)
  have HFEW : Hid (h.ts.length ≤ 110) := Lib.hid hv.few
  have HLEN : Hid (h.bytes.length ≤ 1000) := Lib.hid (by have h1 := h.len; have := hv.few; omega)
  have hval : h.val A c = .agg #[.int .i64 h.seq, .bool h.full, .slice A h.ts.length c] := rfl
  rw [hval] at HV ⊢
  obtain ⟨f, hf⟩ : ∃ f : Int, f = (bitN h.full : Int) := ⟨_, rfl⟩
  have HFF := Lib.hid hf
  obtain ⟨fb, hfb⟩ : ∃ fb, fb = h.full := ⟨_, rfl⟩
  have hfv : f = if fb then 1 else 0 := by rw [hf, hfb]; exact bitN_val _
  obtain ⟨sq, hsq⟩ : ∃ sq, sq = h.seq := ⟨_, rfl⟩
  obtain ⟨n, hn⟩ : ∃ n, n = h.ts.length := ⟨_, rfl⟩
  have HFB := Lib.hid hfb
  have HSQ := Lib.hid hsq
  have HNN := Lib.hid hn
  rw [← hfb, ← hsq, ← hn] at HV ⊢
  rw [← hn] at HFEW
  rw [← hn] at HRN
  rw [← hsq] at HRS
  rw [← hf] at HR2
  clear hv hvb ha hval hT hY hf hfb hsq hn
  have hnI : (n : Int) ≤ 110 := by have := HFEW.out; omega
  cases fb with
  | true =>
    have hf1 : f = 1 := hfv
    have HF1 := Lib.hid hf1
    clear hfv hf1
    go_enter Tryz.func55, Tryz.ntmps55
    go_wp2_with fail
    refine (HV.out _ ((Below.refl _ _).alloc (Nat.le_refl _) _)).mono ?_
    rintro e w1 ⟨rfl, hb1⟩
    have b0 : Blk w1 w.heap.size 61 #[.int .i64 sq, .bool true, .slice A n c] := (Blk.new w _ _).below hb1 (by simp)
    have hb : Below w.heap.size w w1 := ((Below.refl _ _).alloc (Nat.le_refl _) _).trans (hb1.mono (by simp))
    have HBW := Lib.hid hb
    have HC : Hid (∀ w', Below w1.heap.size w1 w' → w'.cell? ⟨w.heap.size, 0, none⟩ = some (.int .i64 sq) ∧ w'.cell? ⟨w.heap.size, 2, none⟩ = some (.slice A n c)) := Lib.hid (fun w' hw => ⟨(b0.below hw b0.lt).cell 0, (b0.below hw b0.lt).cell 2⟩)
    have HL1 : Hid (∀ w', Below w1.heap.size w1 w' → Ints w' w'.heap.size A h.ts) := Lib.hid (fun w' hw => ((HLIE.out.below (hb.trans (hw.mono hb.size))).more (Nat.le_trans hb.size hw.size)))
    have x1 := b0.cell 1
    simp at x1
    clear hb1 b0 hb
    go_upto_region 6 with fail
    clear x1
    refine wp_region_chain_v 119 17 hlD 6 hlC (hlF w.heap.size h A c) (hlCh w1 h) (by kernel_rfl) (by kernel_rfl) rfl hlD_inj hlD_lt hlC_lt hlC_inj ?hcw hlF_kept hlCh_kept ?h0 ?hloose ?hchain ?hK
    case hcw =>
      intro n hn
      rcases (show n = 0 ∨ n = 1 ∨ n = 2 ∨ n = 3 ∨ n = 4 by omega) with rfl | rfl | rfl | rfl | rfl <;> exact of_decide_eq_true (by kernel_rfl)
    case h0 => exact (Below.refl _ _).drew
    case hloose =>
      intro i hi hn y w2 hf hw hch
      obtain ⟨nn, vv, _, hcc⟩ := hch
      have hbe := hlCh_below hcc
      clear hcc
      rcases (show i = 0 ∨ i = 1 ∨ i = 2 ∨ i = 3 ∨ i = 4 ∨ i = 5 ∨ i = 6 ∨ i = 7 ∨ i = 8 ∨ i = 9 ∨ i = 10 ∨ i = 11 ∨ i = 12 ∨ i = 13 ∨ i = 14 ∨ i = 15 ∨ i = 16 by omega) with rfl | rfl | rfl | rfl | rfl | rfl | rfl | rfl | rfl | rfl | rfl | rfl | rfl | rfl | rfl | rfl | rfl
      · exact absurd rfl (hn 0 (by omega))
      · have e1 : y.tmps[4]?.getD undef = .int .i64 1 := by rw [hf.2.2 4 (by decide)]; rfl
        clear hf hw hn hbe
        refine wpOp_value (v := .int .i64 1) (w' := w2) rfl rfl ?_ ⟨_, rfl, (fun h => by cases h), by_refl _ _, ?_⟩
        · go_simp
        · show _ = _
          rw [← HF1.out, HFF.out]
      · have e1 : y.tmps[14]?.getD undef = .int .i64 f := (hw 1 (of_decide_eq_true (by kernel_rfl))).trans (by rw [HFF.out])
        clear hf hw hn hbe
        refine wpOp_value (v := .slice (some ⟨w2.heap.size, 0, none⟩) 2 2) (w' := w2.alloc (.cells #[.int .i64 7, .int .i64 f] 3)) rfl rfl ?_ ⟨_, rfl, (fun h => by cases h), by_alloc (by_refl _ _) _, ?_⟩
        · go_simp
        · show ∃ b, _ ∧ Blk _ b 3 #[.int .i64 7, .int .i64 (bitN h.full : Int)]
          rw [← HFF.out]
          exact ⟨_, rfl, Blk.new _ _ _⟩
      · exact absurd rfl (hn 1 (by omega))
      · have e1 : y.tmps[1]?.getD undef = .pointer (some ⟨w.heap.size, 0, none⟩) := by rw [hf.2.2 1 (by decide)]; rfl
        clear hf hw hn hbe
        refine wpOp_value (v := .pointer (some ⟨w.heap.size, 0, none⟩)) (w' := w2) rfl rfl ?_ ⟨_, rfl, (fun h => by cases h), by_refl _ _, ?_⟩
        · go_simp
        · show _ = _
          exact rfl
      · have e1 : y.tmps[17]?.getD undef = .pointer (some ⟨w.heap.size, 0, none⟩) := hw 4 (of_decide_eq_true (by kernel_rfl))
        obtain ⟨c0, c2⟩ := HC.out w2 hbe
        clear hf hw hn hbe
        refine wpOp_value (v := .int .i64 sq) (w' := w2) rfl rfl ?_ ⟨_, rfl, (fun h => by cases h), by_refl _ _, ?_⟩
        · go_simp
        · show _ = _
          rw [HSQ.out]
      · have e1 : y.tmps[18]?.getD undef = .int .i64 sq := (hw 5 (of_decide_eq_true (by kernel_rfl))).trans (by rw [HSQ.out])
        clear hf hw hn hbe
        refine wpOp_value (v := .slice (some ⟨w2.heap.size, 0, none⟩) 1 1) (w' := w2.alloc (.cells #[.int .i64 sq] 3)) rfl rfl ?_ ⟨_, rfl, (fun h => by cases h), by_alloc (by_refl _ _) _, ?_⟩
        · go_simp
        · show ∃ b, _ ∧ Blk _ b 3 #[.int .i64 h.seq]
          rw [← HSQ.out]
          exact ⟨_, rfl, Blk.new _ _ _⟩
      · exact absurd rfl (hn 2 (by omega))
      · have e1 : y.tmps[1]?.getD undef = .pointer (some ⟨w.heap.size, 0, none⟩) := by rw [hf.2.2 1 (by decide)]; rfl
        clear hf hw hn hbe
        refine wpOp_value (v := .pointer (some ⟨w.heap.size, 2, none⟩)) (w' := w2) rfl rfl ?_ ⟨_, rfl, (fun h => by cases h), by_refl _ _, ?_⟩
        · go_simp
        · show _ = _
          exact rfl
      · have e1 : y.tmps[21]?.getD undef = .pointer (some ⟨w.heap.size, 2, none⟩) := hw 8 (of_decide_eq_true (by kernel_rfl))
        obtain ⟨c0, c2⟩ := HC.out w2 hbe
        clear hf hw hn hbe
        refine wpOp_value (v := .slice A n c) (w' := w2) rfl rfl ?_ ⟨_, rfl, (fun h => by cases h), by_refl _ _, ?_⟩
        · go_simp
        · show _ = _
          rw [HNN.out]
      · have e1 : y.tmps[22]?.getD undef = .slice A n c := (hw 9 (of_decide_eq_true (by kernel_rfl))).trans (by rw [HNN.out])
        clear hf hw hn hbe
        refine wpOp_value (v := .int .i64 (n : Int)) (w' := w2) rfl rfl ?_ ⟨_, rfl, (fun h => by cases h), by_refl _ _, ?_⟩
        · go_simp
        · show _ = _
          rw [HNN.out]
      · have e1 : y.tmps[23]?.getD undef = .int .i64 (n : Int) := (hw 10 (of_decide_eq_true (by kernel_rfl))).trans (by rw [HNN.out])
        clear hf hw hn hbe
        refine wpOp_value (v := .slice (some ⟨w2.heap.size, 0, none⟩) 1 1) (w' := w2.alloc (.cells #[.int .i64 (n : Int)] 3)) rfl rfl ?_ ⟨_, rfl, (fun h => by cases h), by_alloc (by_refl _ _) _, ?_⟩
        · go_simp
        · show ∃ b, _ ∧ Blk _ b 3 #[.int .i64 (h.ts.length : Int)]
          rw [← HNN.out]
          exact ⟨_, rfl, Blk.new _ _ _⟩
      · exact absurd rfl (hn 3 (by omega))
      · have e1 : y.tmps[1]?.getD undef = .pointer (some ⟨w.heap.size, 0, none⟩) := by rw [hf.2.2 1 (by decide)]; rfl
        clear hf hw hn hbe
        refine wpOp_value (v := .pointer (some ⟨w.heap.size, 2, none⟩)) (w' := w2) rfl rfl ?_ ⟨_, rfl, (fun h => by cases h), by_refl _ _, ?_⟩
        · go_simp
        · show _ = _
          exact rfl
      · have e1 : y.tmps[26]?.getD undef = .pointer (some ⟨w.heap.size, 2, none⟩) := hw 13 (of_decide_eq_true (by kernel_rfl))
        obtain ⟨c0, c2⟩ := HC.out w2 hbe
        clear hf hw hn hbe
        refine wpOp_value (v := .slice A n c) (w' := w2) rfl rfl ?_ ⟨_, rfl, (fun h => by cases h), by_refl _ _, ?_⟩
        · go_simp
        · show _ = _
          rw [HNN.out]
      · exact absurd rfl (hn 4 (by omega))
      · exact absurd rfl (hn 5 (by omega))
    case hchain =>
      intro m hm y w2 hf hw hch
      rcases (show m = 0 ∨ m = 1 ∨ m = 2 ∨ m = 3 ∨ m = 4 ∨ m = 5 by omega) with rfl | rfl | rfl | rfl | rfl | rfl
      · have hbe : Below w1.heap.size w1 w2 := hch
        clear hf hw hch
        change wpOp _ _ _ 0 _ _ _
        refine wpOp_value (v := .pointer (some ⟨w2.heap.size, 0, none⟩)) (w' := w2.alloc (.cells #[.pointer none, .int .i64 0, .int .i64 0] 119)) rfl rfl ?_ ⟨_, rfl, (fun h => by cases h), GrownT.of_none (by_alloc (by_refl _ _) _), ⟨hbe.alloc hbe.size _, _, rfl, hbe.size, OutAt.new w2⟩, trivial⟩
        go_simp
      · obtain ⟨hbe, g, hg, hgW, ho⟩ := hch
        have e1 : y.tmps[13]?.getD undef = .pointer (some ⟨g, 0, none⟩) := hg
        obtain ⟨b, e2, hbk⟩ : ∃ b, y.tmps[15]?.getD undef = .slice (some ⟨b, 0, none⟩) 2 2 ∧ Blk w2 b 3 #[.int .i64 7, .int .i64 (bitN h.full : Int)] := hw 2 (of_decide_eq_true (by kernel_rfl))
        rw [← HFF.out] at hbk
        clear hf hw hg
        change wpOp _ _ _ 3 _ _ _
        refine wpOp_call (f := 79) (args := #[.pointer (some ⟨g, 0, none⟩), .slice (some ⟨b, 0, none⟩) 2 2]) rfl rfl (by go_simp) ((out_byte g _ _ 2 2 [7, f] w2 rfl (ints_blk2 hbk) (by simp) HR2.out ho (by simp [headSt])).mono ?_)
        rintro e w3 ⟨rfl, h3, hg3⟩
        refine ⟨_, rfl, _, rfl, (fun h => by cases h), ho.grownT' hg3, ⟨below_by_new hbe hg3 hgW, g, rfl, hgW, ?_⟩, trivial⟩
        · show OutAt w3 g (Wr.nums ⟨[], 0⟩ 1 [7, (bitN h.full : Int)])
          rw [← HFF.out]
          exact h3
      · obtain ⟨hbe, g, hg, hgW, ho⟩ := hch
        have e1 : y.tmps[16]?.getD undef = .pointer (some ⟨g, 0, none⟩) := hg
        obtain ⟨b, e2, hbk⟩ : ∃ b, y.tmps[19]?.getD undef = .slice (some ⟨b, 0, none⟩) 1 1 ∧ Blk w2 b 3 #[.int .i64 h.seq] := hw 6 (of_decide_eq_true (by kernel_rfl))
        rw [← HSQ.out] at hbk
        clear hf hw hg
        change wpOp _ _ _ 7 _ _ _
        refine wpOp_call (f := 80) (args := #[.pointer (some ⟨g, 0, none⟩), .slice (some ⟨b, 0, none⟩) 1 1]) rfl rfl (by go_simp) ((out_long g _ _ 1 1 [sq] w2 rfl (ints_blk1 hbk) (by simp) HRS.out ho (by rw [S2.out]; simp [lowBytes_length])).mono ?_)
        rintro e w3 ⟨rfl, h3, hg3⟩
        refine ⟨_, rfl, _, rfl, (fun h => by cases h), ho.grownT' hg3, ⟨below_by_new hbe hg3 hgW, g, rfl, hgW, ?_⟩, trivial⟩
        · show OutAt w3 g (Wr.nums (headSt h 2) 8 [h.seq])
          rw [← HSQ.out]
          exact h3
      · obtain ⟨hbe, g, hg, hgW, ho⟩ := hch
        have e1 : y.tmps[20]?.getD undef = .pointer (some ⟨g, 0, none⟩) := hg
        obtain ⟨b, e2, hbk⟩ : ∃ b, y.tmps[24]?.getD undef = .slice (some ⟨b, 0, none⟩) 1 1 ∧ Blk w2 b 3 #[.int .i64 (h.ts.length : Int)] := hw 11 (of_decide_eq_true (by kernel_rfl))
        rw [← HNN.out] at hbk
        clear hf hw hg
        change wpOp _ _ _ 12 _ _ _
        refine wpOp_call (f := 81) (args := #[.pointer (some ⟨g, 0, none⟩), .slice (some ⟨b, 0, none⟩) 1 1]) rfl rfl (by go_simp) ((out_half g _ _ 1 1 [(n : Int)] w2 rfl (ints_blk1 hbk) (by simp) HRN.out ho (by rw [S3.out]; simp [lowBytes_length])).mono ?_)
        rintro e w3 ⟨rfl, h3, hg3⟩
        refine ⟨_, rfl, _, rfl, (fun h => by cases h), ho.grownT' hg3, ⟨below_by_new hbe hg3 hgW, g, rfl, hgW, ?_⟩, trivial⟩
        · show OutAt w3 g (Wr.nums (headSt h 3) 2 [(h.ts.length : Int)])
          rw [← HNN.out]
          exact h3
      · obtain ⟨hbe, g, hg, hgW, ho⟩ := hch
        have e1 : y.tmps[25]?.getD undef = .pointer (some ⟨g, 0, none⟩) := hg
        have e2 : y.tmps[27]?.getD undef = .slice A n c := (hw 14 (of_decide_eq_true (by kernel_rfl))).trans (by rw [HNN.out])
        clear hf hw hg
        change wpOp _ _ _ 15 _ _ _
        refine wpOp_call (f := 81) (args := #[.pointer (some ⟨g, 0, none⟩), .slice A n c]) rfl rfl (by go_simp) ((out_half g _ A n c h.ts w2 HNN.out.symm (HL1.out w2 hbe) (by have := HNN.out; omega) HRT.out ho (by rw [S4.out]; simp [lowBytes_length])).mono ?_)
        rintro e w3 ⟨rfl, h3, hg3⟩
        exact ⟨_, rfl, _, rfl, (fun h => by cases h), ho.grownT' hg3, ⟨below_by_new hbe hg3 hgW, g, rfl, hgW, h3⟩, trivial⟩
      · obtain ⟨hbe, g, hg, hgW, ho⟩ := hch
        have e1 : y.tmps[28]?.getD undef = .pointer (some ⟨g, 0, none⟩) := hg
        clear hf hw hg
        change wpOp _ _ _ 16 _ _ _
        refine wpOp_value (v := .pointer (some ⟨g, 0, none⟩)) (w' := w2) rfl rfl ?_ ⟨_, rfl, (fun h => by cases h), GrownT.of_none (by_refl _ _), ⟨hbe, g, rfl, hgW, ho⟩, trivial⟩
        go_simp
    case hK =>
      intro y w2 hf hv hch
      obtain ⟨hbe, g, hg, hgW, ho⟩ := hch
      have e5 : y.tmps[5]?.getD undef = .pointer (some ⟨g, 0, none⟩) := hg
      have hd : y.defers = [] := hf.1
      have hsz : y.tmps.size = 39 := hf.2.1
      obtain ⟨tt, dd⟩ := y
      obtain rfl : dd = [] := hd
      have hsz : tt.size = 39 := hsz
      have HBE : Hid (Below w.heap.size w w2) := Lib.hid (HBW.out.trans (hbe.mono HBW.out.size))
      have HO := Lib.hid ho
      have HFIN : Hid (Calls Tryz.prog 82 #[.pointer (some ⟨g, 0, none⟩)] w2 fun e w' => e = .returned (.tuple #[.string Y, .int .i64 0]) ∧ Below w2.heap.size w2 w') := Lib.hid (by
        have h1 := fin_any g _ w2 ho (by rw [S5.out]; exact Wr.ok_zero _) (by rw [S5.out]; have := HLEN.out; show h.bytes.length ≤ _; omega)
        rw [S5.out] at h1
        refine h1.mono ?_
        rintro e w3 ⟨rfl, _, hb⟩
        exact ⟨by rw [HYE.out]; rfl, hb⟩)
      have e5' : tt[5]?.getD undef = .pointer (some ⟨g, 0, none⟩) := e5
      clear hf hv hg e5 hbe ho hgW
      obtain ⟨x0, x1, x2, x3, x4, x5, x6, x7, x8, x9, x10, x11, x12, x13, x14, x15, x16, x17, x18, x19, x20, x21, x22, x23, x24, x25, x26, x27, x28, x29, x30, x31, x32, x33, x34, x35, x36, x37, x38, rfl⟩ := arr39 tt hsz
      obtain rfl : x5 = .pointer (some ⟨g, 0, none⟩) := by simpa using e5'
      clear e5' hsz
      go_wp2_with fail
      refine HFIN.out.mono ?_
      rintro e w3 ⟨rfl, hb3⟩
      have HB3 : Hid (Below w.heap.size w w3) := Lib.hid (HBE.out.trans (hb3.mono HBE.out.size))
      go_wp2_with fail
      refine (HSEAL.out _ _ _ (txts_at _ _ _ _ rfl rfl)).mono ?_
      rintro e w4 ⟨rfl, hb4⟩
      go_wp2_with fail
      go_ret2
      exact ⟨rfl, (HB3.out.alloc HB3.out.size _).trans (hb4.mono (by have := HB3.out.size; simp; omega))⟩
  | false =>
    have hf1 : f = 0 := hfv
    have HF1 := Lib.hid hf1
    clear hfv hf1
    go_enter Tryz.func55, Tryz.ntmps55
    go_wp2_with fail
    refine (HV.out _ ((Below.refl _ _).alloc (Nat.le_refl _) _)).mono ?_
    rintro e w1 ⟨rfl, hb1⟩
    have b0 : Blk w1 w.heap.size 61 #[.int .i64 sq, .bool false, .slice A n c] := (Blk.new w _ _).below hb1 (by simp)
    have hb : Below w.heap.size w w1 := ((Below.refl _ _).alloc (Nat.le_refl _) _).trans (hb1.mono (by simp))
    have HBW := Lib.hid hb
    have HC : Hid (∀ w', Below w1.heap.size w1 w' → w'.cell? ⟨w.heap.size, 0, none⟩ = some (.int .i64 sq) ∧ w'.cell? ⟨w.heap.size, 2, none⟩ = some (.slice A n c)) := Lib.hid (fun w' hw => ⟨(b0.below hw b0.lt).cell 0, (b0.below hw b0.lt).cell 2⟩)
    have HL1 : Hid (∀ w', Below w1.heap.size w1 w' → Ints w' w'.heap.size A h.ts) := Lib.hid (fun w' hw => ((HLIE.out.below (hb.trans (hw.mono hb.size))).more (Nat.le_trans hb.size hw.size)))
    have x1 := b0.cell 1
    simp at x1
    clear hb1 b0 hb
    go_upto_region 6 with fail
    clear x1
    refine wp_region_chain_v 119 17 hlD 6 hlC (hlF w.heap.size h A c) (hlCh w1 h) (by kernel_rfl) (by kernel_rfl) rfl hlD_inj hlD_lt hlC_lt hlC_inj ?hcw hlF_kept hlCh_kept ?h0 ?hloose ?hchain ?hK
    case hcw =>
      intro n hn
      rcases (show n = 0 ∨ n = 1 ∨ n = 2 ∨ n = 3 ∨ n = 4 by omega) with rfl | rfl | rfl | rfl | rfl <;> exact of_decide_eq_true (by kernel_rfl)
    case h0 => exact (Below.refl _ _).drew
    case hloose =>
      intro i hi hn y w2 hf hw hch
      obtain ⟨nn, vv, _, hcc⟩ := hch
      have hbe := hlCh_below hcc
      clear hcc
      rcases (show i = 0 ∨ i = 1 ∨ i = 2 ∨ i = 3 ∨ i = 4 ∨ i = 5 ∨ i = 6 ∨ i = 7 ∨ i = 8 ∨ i = 9 ∨ i = 10 ∨ i = 11 ∨ i = 12 ∨ i = 13 ∨ i = 14 ∨ i = 15 ∨ i = 16 by omega) with rfl | rfl | rfl | rfl | rfl | rfl | rfl | rfl | rfl | rfl | rfl | rfl | rfl | rfl | rfl | rfl | rfl
      · exact absurd rfl (hn 0 (by omega))
      · have e1 : y.tmps[4]?.getD undef = .int .i64 0 := by rw [hf.2.2 4 (by decide)]; rfl
        clear hf hw hn hbe
        refine wpOp_value (v := .int .i64 0) (w' := w2) rfl rfl ?_ ⟨_, rfl, (fun h => by cases h), by_refl _ _, ?_⟩
        · go_simp
        · show _ = _
          rw [← HF1.out, HFF.out]
      · have e1 : y.tmps[14]?.getD undef = .int .i64 f := (hw 1 (of_decide_eq_true (by kernel_rfl))).trans (by rw [HFF.out])
        clear hf hw hn hbe
        refine wpOp_value (v := .slice (some ⟨w2.heap.size, 0, none⟩) 2 2) (w' := w2.alloc (.cells #[.int .i64 7, .int .i64 f] 3)) rfl rfl ?_ ⟨_, rfl, (fun h => by cases h), by_alloc (by_refl _ _) _, ?_⟩
        · go_simp
        · show ∃ b, _ ∧ Blk _ b 3 #[.int .i64 7, .int .i64 (bitN h.full : Int)]
          rw [← HFF.out]
          exact ⟨_, rfl, Blk.new _ _ _⟩
      · exact absurd rfl (hn 1 (by omega))
      · have e1 : y.tmps[1]?.getD undef = .pointer (some ⟨w.heap.size, 0, none⟩) := by rw [hf.2.2 1 (by decide)]; rfl
        clear hf hw hn hbe
        refine wpOp_value (v := .pointer (some ⟨w.heap.size, 0, none⟩)) (w' := w2) rfl rfl ?_ ⟨_, rfl, (fun h => by cases h), by_refl _ _, ?_⟩
        · go_simp
        · show _ = _
          exact rfl
      · have e1 : y.tmps[17]?.getD undef = .pointer (some ⟨w.heap.size, 0, none⟩) := hw 4 (of_decide_eq_true (by kernel_rfl))
        obtain ⟨c0, c2⟩ := HC.out w2 hbe
        clear hf hw hn hbe
        refine wpOp_value (v := .int .i64 sq) (w' := w2) rfl rfl ?_ ⟨_, rfl, (fun h => by cases h), by_refl _ _, ?_⟩
        · go_simp
        · show _ = _
          rw [HSQ.out]
      · have e1 : y.tmps[18]?.getD undef = .int .i64 sq := (hw 5 (of_decide_eq_true (by kernel_rfl))).trans (by rw [HSQ.out])
        clear hf hw hn hbe
        refine wpOp_value (v := .slice (some ⟨w2.heap.size, 0, none⟩) 1 1) (w' := w2.alloc (.cells #[.int .i64 sq] 3)) rfl rfl ?_ ⟨_, rfl, (fun h => by cases h), by_alloc (by_refl _ _) _, ?_⟩
        · go_simp
        · show ∃ b, _ ∧ Blk _ b 3 #[.int .i64 h.seq]
          rw [← HSQ.out]
          exact ⟨_, rfl, Blk.new _ _ _⟩
      · exact absurd rfl (hn 2 (by omega))
      · have e1 : y.tmps[1]?.getD undef = .pointer (some ⟨w.heap.size, 0, none⟩) := by rw [hf.2.2 1 (by decide)]; rfl
        clear hf hw hn hbe
        refine wpOp_value (v := .pointer (some ⟨w.heap.size, 2, none⟩)) (w' := w2) rfl rfl ?_ ⟨_, rfl, (fun h => by cases h), by_refl _ _, ?_⟩
        · go_simp
        · show _ = _
          exact rfl
      · have e1 : y.tmps[21]?.getD undef = .pointer (some ⟨w.heap.size, 2, none⟩) := hw 8 (of_decide_eq_true (by kernel_rfl))
        obtain ⟨c0, c2⟩ := HC.out w2 hbe
        clear hf hw hn hbe
        refine wpOp_value (v := .slice A n c) (w' := w2) rfl rfl ?_ ⟨_, rfl, (fun h => by cases h), by_refl _ _, ?_⟩
        · go_simp
        · show _ = _
          rw [HNN.out]
      · have e1 : y.tmps[22]?.getD undef = .slice A n c := (hw 9 (of_decide_eq_true (by kernel_rfl))).trans (by rw [HNN.out])
        clear hf hw hn hbe
        refine wpOp_value (v := .int .i64 (n : Int)) (w' := w2) rfl rfl ?_ ⟨_, rfl, (fun h => by cases h), by_refl _ _, ?_⟩
        · go_simp
        · show _ = _
          rw [HNN.out]
      · have e1 : y.tmps[23]?.getD undef = .int .i64 (n : Int) := (hw 10 (of_decide_eq_true (by kernel_rfl))).trans (by rw [HNN.out])
        clear hf hw hn hbe
        refine wpOp_value (v := .slice (some ⟨w2.heap.size, 0, none⟩) 1 1) (w' := w2.alloc (.cells #[.int .i64 (n : Int)] 3)) rfl rfl ?_ ⟨_, rfl, (fun h => by cases h), by_alloc (by_refl _ _) _, ?_⟩
        · go_simp
        · show ∃ b, _ ∧ Blk _ b 3 #[.int .i64 (h.ts.length : Int)]
          rw [← HNN.out]
          exact ⟨_, rfl, Blk.new _ _ _⟩
      · exact absurd rfl (hn 3 (by omega))
      · have e1 : y.tmps[1]?.getD undef = .pointer (some ⟨w.heap.size, 0, none⟩) := by rw [hf.2.2 1 (by decide)]; rfl
        clear hf hw hn hbe
        refine wpOp_value (v := .pointer (some ⟨w.heap.size, 2, none⟩)) (w' := w2) rfl rfl ?_ ⟨_, rfl, (fun h => by cases h), by_refl _ _, ?_⟩
        · go_simp
        · show _ = _
          exact rfl
      · have e1 : y.tmps[26]?.getD undef = .pointer (some ⟨w.heap.size, 2, none⟩) := hw 13 (of_decide_eq_true (by kernel_rfl))
        obtain ⟨c0, c2⟩ := HC.out w2 hbe
        clear hf hw hn hbe
        refine wpOp_value (v := .slice A n c) (w' := w2) rfl rfl ?_ ⟨_, rfl, (fun h => by cases h), by_refl _ _, ?_⟩
        · go_simp
        · show _ = _
          rw [HNN.out]
      · exact absurd rfl (hn 4 (by omega))
      · exact absurd rfl (hn 5 (by omega))
    case hchain =>
      intro m hm y w2 hf hw hch
      rcases (show m = 0 ∨ m = 1 ∨ m = 2 ∨ m = 3 ∨ m = 4 ∨ m = 5 by omega) with rfl | rfl | rfl | rfl | rfl | rfl
      · have hbe : Below w1.heap.size w1 w2 := hch
        clear hf hw hch
        change wpOp _ _ _ 0 _ _ _
        refine wpOp_value (v := .pointer (some ⟨w2.heap.size, 0, none⟩)) (w' := w2.alloc (.cells #[.pointer none, .int .i64 0, .int .i64 0] 119)) rfl rfl ?_ ⟨_, rfl, (fun h => by cases h), GrownT.of_none (by_alloc (by_refl _ _) _), ⟨hbe.alloc hbe.size _, _, rfl, hbe.size, OutAt.new w2⟩, trivial⟩
        go_simp
      · obtain ⟨hbe, g, hg, hgW, ho⟩ := hch
        have e1 : y.tmps[13]?.getD undef = .pointer (some ⟨g, 0, none⟩) := hg
        obtain ⟨b, e2, hbk⟩ : ∃ b, y.tmps[15]?.getD undef = .slice (some ⟨b, 0, none⟩) 2 2 ∧ Blk w2 b 3 #[.int .i64 7, .int .i64 (bitN h.full : Int)] := hw 2 (of_decide_eq_true (by kernel_rfl))
        rw [← HFF.out] at hbk
        clear hf hw hg
        change wpOp _ _ _ 3 _ _ _
        refine wpOp_call (f := 79) (args := #[.pointer (some ⟨g, 0, none⟩), .slice (some ⟨b, 0, none⟩) 2 2]) rfl rfl (by go_simp) ((out_byte g _ _ 2 2 [7, f] w2 rfl (ints_blk2 hbk) (by simp) HR2.out ho (by simp [headSt])).mono ?_)
        rintro e w3 ⟨rfl, h3, hg3⟩
        refine ⟨_, rfl, _, rfl, (fun h => by cases h), ho.grownT' hg3, ⟨below_by_new hbe hg3 hgW, g, rfl, hgW, ?_⟩, trivial⟩
        · show OutAt w3 g (Wr.nums ⟨[], 0⟩ 1 [7, (bitN h.full : Int)])
          rw [← HFF.out]
          exact h3
      · obtain ⟨hbe, g, hg, hgW, ho⟩ := hch
        have e1 : y.tmps[16]?.getD undef = .pointer (some ⟨g, 0, none⟩) := hg
        obtain ⟨b, e2, hbk⟩ : ∃ b, y.tmps[19]?.getD undef = .slice (some ⟨b, 0, none⟩) 1 1 ∧ Blk w2 b 3 #[.int .i64 h.seq] := hw 6 (of_decide_eq_true (by kernel_rfl))
        rw [← HSQ.out] at hbk
        clear hf hw hg
        change wpOp _ _ _ 7 _ _ _
        refine wpOp_call (f := 80) (args := #[.pointer (some ⟨g, 0, none⟩), .slice (some ⟨b, 0, none⟩) 1 1]) rfl rfl (by go_simp) ((out_long g _ _ 1 1 [sq] w2 rfl (ints_blk1 hbk) (by simp) HRS.out ho (by rw [S2.out]; simp [lowBytes_length])).mono ?_)
        rintro e w3 ⟨rfl, h3, hg3⟩
        refine ⟨_, rfl, _, rfl, (fun h => by cases h), ho.grownT' hg3, ⟨below_by_new hbe hg3 hgW, g, rfl, hgW, ?_⟩, trivial⟩
        · show OutAt w3 g (Wr.nums (headSt h 2) 8 [h.seq])
          rw [← HSQ.out]
          exact h3
      · obtain ⟨hbe, g, hg, hgW, ho⟩ := hch
        have e1 : y.tmps[20]?.getD undef = .pointer (some ⟨g, 0, none⟩) := hg
        obtain ⟨b, e2, hbk⟩ : ∃ b, y.tmps[24]?.getD undef = .slice (some ⟨b, 0, none⟩) 1 1 ∧ Blk w2 b 3 #[.int .i64 (h.ts.length : Int)] := hw 11 (of_decide_eq_true (by kernel_rfl))
        rw [← HNN.out] at hbk
        clear hf hw hg
        change wpOp _ _ _ 12 _ _ _
        refine wpOp_call (f := 81) (args := #[.pointer (some ⟨g, 0, none⟩), .slice (some ⟨b, 0, none⟩) 1 1]) rfl rfl (by go_simp) ((out_half g _ _ 1 1 [(n : Int)] w2 rfl (ints_blk1 hbk) (by simp) HRN.out ho (by rw [S3.out]; simp [lowBytes_length])).mono ?_)
        rintro e w3 ⟨rfl, h3, hg3⟩
        refine ⟨_, rfl, _, rfl, (fun h => by cases h), ho.grownT' hg3, ⟨below_by_new hbe hg3 hgW, g, rfl, hgW, ?_⟩, trivial⟩
        · show OutAt w3 g (Wr.nums (headSt h 3) 2 [(h.ts.length : Int)])
          rw [← HNN.out]
          exact h3
      · obtain ⟨hbe, g, hg, hgW, ho⟩ := hch
        have e1 : y.tmps[25]?.getD undef = .pointer (some ⟨g, 0, none⟩) := hg
        have e2 : y.tmps[27]?.getD undef = .slice A n c := (hw 14 (of_decide_eq_true (by kernel_rfl))).trans (by rw [HNN.out])
        clear hf hw hg
        change wpOp _ _ _ 15 _ _ _
        refine wpOp_call (f := 81) (args := #[.pointer (some ⟨g, 0, none⟩), .slice A n c]) rfl rfl (by go_simp) ((out_half g _ A n c h.ts w2 HNN.out.symm (HL1.out w2 hbe) (by have := HNN.out; omega) HRT.out ho (by rw [S4.out]; simp [lowBytes_length])).mono ?_)
        rintro e w3 ⟨rfl, h3, hg3⟩
        exact ⟨_, rfl, _, rfl, (fun h => by cases h), ho.grownT' hg3, ⟨below_by_new hbe hg3 hgW, g, rfl, hgW, h3⟩, trivial⟩
      · obtain ⟨hbe, g, hg, hgW, ho⟩ := hch
        have e1 : y.tmps[28]?.getD undef = .pointer (some ⟨g, 0, none⟩) := hg
        clear hf hw hg
        change wpOp _ _ _ 16 _ _ _
        refine wpOp_value (v := .pointer (some ⟨g, 0, none⟩)) (w' := w2) rfl rfl ?_ ⟨_, rfl, (fun h => by cases h), GrownT.of_none (by_refl _ _), ⟨hbe, g, rfl, hgW, ho⟩, trivial⟩
        go_simp
    case hK =>
      intro y w2 hf hv hch
      obtain ⟨hbe, g, hg, hgW, ho⟩ := hch
      have e5 : y.tmps[5]?.getD undef = .pointer (some ⟨g, 0, none⟩) := hg
      have hd : y.defers = [] := hf.1
      have hsz : y.tmps.size = 39 := hf.2.1
      obtain ⟨tt, dd⟩ := y
      obtain rfl : dd = [] := hd
      have hsz : tt.size = 39 := hsz
      have HBE : Hid (Below w.heap.size w w2) := Lib.hid (HBW.out.trans (hbe.mono HBW.out.size))
      have HO := Lib.hid ho
      have HFIN : Hid (Calls Tryz.prog 82 #[.pointer (some ⟨g, 0, none⟩)] w2 fun e w' => e = .returned (.tuple #[.string Y, .int .i64 0]) ∧ Below w2.heap.size w2 w') := Lib.hid (by
        have h1 := fin_any g _ w2 ho (by rw [S5.out]; exact Wr.ok_zero _) (by rw [S5.out]; have := HLEN.out; show h.bytes.length ≤ _; omega)
        rw [S5.out] at h1
        refine h1.mono ?_
        rintro e w3 ⟨rfl, _, hb⟩
        exact ⟨by rw [HYE.out]; rfl, hb⟩)
      have e5' : tt[5]?.getD undef = .pointer (some ⟨g, 0, none⟩) := e5
      clear hf hv hg e5 hbe ho hgW
      obtain ⟨x0, x1, x2, x3, x4, x5, x6, x7, x8, x9, x10, x11, x12, x13, x14, x15, x16, x17, x18, x19, x20, x21, x22, x23, x24, x25, x26, x27, x28, x29, x30, x31, x32, x33, x34, x35, x36, x37, x38, rfl⟩ := arr39 tt hsz
      obtain rfl : x5 = .pointer (some ⟨g, 0, none⟩) := by simpa using e5'
      clear e5' hsz
      go_wp2_with fail
      refine HFIN.out.mono ?_
      rintro e w3 ⟨rfl, hb3⟩
      have HB3 : Hid (Below w.heap.size w w3) := Lib.hid (HBE.out.trans (hb3.mono HBE.out.size))
      go_wp2_with fail
      refine (HSEAL.out _ _ _ (txts_at _ _ _ _ rfl rfl)).mono ?_
      rintro e w4 ⟨rfl, hb4⟩
      go_wp2_with fail
      go_ret2
      exact ⟨rfl, (HB3.out.alloc HB3.out.size _).trans (hb4.mono (by have := HB3.out.size; simp; omega))⟩

set_option maxRecDepth 100000 in
set_option maxHeartbeats 1000000 in
theorem hlay_no (h : HD) (A : Option Addr) (c : Nat) (w : World) (ha : h.At w A c) (hvb : h.validB = false) :
    Calls Tryz.prog 55 #[h.val A c] w fun e w' => e = .returned (.tuple #[.string ⟨#[]⟩, .int .i64 1]) ∧ Below w.heap.size w w' := by
  have HV : Hid (∀ W, Below w.heap.size w W → Calls Tryz.prog 78 #[h.val A c] W fun e w' => e = .returned (.bool false) ∧ Below W.heap.size W w') := Lib.hid (fun W hb => by have := hvalid_any h A c W (ha.below hb); rwa [hvb] at this)
  have hval : h.val A c = .agg #[.int .i64 h.seq, .bool h.full, .slice A h.ts.length c] := rfl
  rw [hval] at HV ⊢
  obtain ⟨f, hf⟩ : ∃ f, f = h.full := ⟨_, rfl⟩
  obtain ⟨q, hq⟩ : ∃ q, q = h.seq := ⟨_, rfl⟩
  obtain ⟨n, hn⟩ : ∃ n, n = h.ts.length := ⟨_, rfl⟩
  rw [← hf, ← hq, ← hn] at HV ⊢
  clear ha hvb hval hf hq hn
  go_enter Tryz.func55, Tryz.ntmps55
  go_wp2_with fail
  refine (HV.out _ ((Below.refl _ _).alloc (Nat.le_refl _) _)).mono ?_
  rintro e w1 ⟨rfl, hb1⟩
  go_wp2_with fail
  go_ret2
  exact ⟨rfl, ((Below.refl _ _).alloc (Nat.le_refl _) _).trans (hb1.mono (by simp))⟩

theorem hlay_any (h : HD) (A : Option Addr) (c : Nat) (w : World) (ha : h.At w A c) :
    Calls Tryz.prog 55 #[h.val A c] w fun e w' => e = .returned (if h.validB then .tuple #[.string (bs h.text), .int .i64 0] else .tuple #[.string ⟨#[]⟩, .int .i64 1]) ∧ Below w.heap.size w w' := by
  cases hv : h.validB with
  | true => rw [if_pos rfl]; exact hlay_valid h A c w ha hv
  | false =>
    rw [if_neg (by decide)]
    exact hlay_no h A c w ha hv
end Go.Proofs.YtbaanoomilohhaaGreatDoor
