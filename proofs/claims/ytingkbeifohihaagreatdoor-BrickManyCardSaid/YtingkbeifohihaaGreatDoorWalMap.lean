/-
  Package wal: its map from sectors to places, and which write of several counts. No statement is proved here.
-/
import Derived.Test.YtingkbeifohihaaGreatDoorCrcSeal
import Derived.Test.YtingkbeifohihaaGreatDoorMarkRef
import Derived.Test.YtingkbeifohihaaGreatDoorCrcPure
import Derived.Maps.OwnSet
import Derived.Maps.StringElems
import Derived.Laws.IdiomMaps
import Derived.OpenShut
namespace Go.Proofs.YtingkbeifohihaaGreatDoor
open Go.RowKit
set_option maxRecDepth 100000
set_option maxHeartbeats 8000000
theorem kD {w : World} {b : Nat} {k : Int} (h : aG w b 3 #[.int .i64 k]) : dZ w w.heap.size (some ⟨b, 0, none⟩) [k] := by
 intro _
 refine ⟨b, 0, rfl, h.lt, fun j x hx => ?_⟩
 match j, hx with
 | 0, hx =>
   obtain rfl : k = x := by simpa using hx
   exact h.cell 0
theorem tO {w : World} {b : Nat} {k m : Int} (h : aG w b 3 #[.int .i64 k, .int .i64 m]) : dZ w w.heap.size (some ⟨b, 0, none⟩) [k, m] := by
 intro _
 refine ⟨b, 0, rfl, h.lt, fun j x hx => ?_⟩
 match j, hx with
 | 0, hx =>
   obtain rfl : k = x := by simpa using hx
   exact h.cell 0
 | 1, hx =>
   obtain rfl : m = x := by simpa using hx
   exact h.cell 1
theorem bF.grownT' {w w' : World} {o : Nat} {s : Wr} (h : bF w o s) (hg : w.grownBy w' (some o)) : cP 149 w w' := by
 obtain ⟨p, r, hb, _⟩ := h
 exact cP.of_by hg hb
theorem bF.kept' {w w' : World} {o : Nat} {s : Wr} (h : bF w o s) (hg : w.grownBy w' none) : bF w' o s := h.below (fH hg)
def AK (i : Nat) : Option Nat := [13, 14, 15, 16, 17, 18, 19, 20, 21, 22, 23, 24, 25, 26, 27, 28, 5][i]?
theorem Lu (i j s : Nat) (_ : i < 17) (_ : j < 17) (h1 : AK i = some s) (h2 : AK j = some s) : i = j := pN (by decide) i j s h1 h2
theorem Tn (i s : Nat) (_ : i < 17) (h : AK i = some s) : s < 39 := (by decide : ∀ x ∈ [13, 14, 15, 16, 17, 18, 19, 20, 21, 22, 23, 24, 25, 26, 27, 28, 5], x < 39) s (List.mem_of_getElem? h)
def Zn (n : Nat) : Nat := [0, 3, 7, 12, 15, 16].getD n 0
theorem Lv (i j : Nat) (hi : i < 6) (hj : j < 6) (h : Zn i = Zn j) : i = j := (by decide : ∀ i, i < 6 -> ∀ j, j < 6 -> Zn i = Zn j -> i = j) i hi j hj h
theorem To : ∀ i, i < 6 -> Zn i < 17 := by decide
def AL (B : Nat) (h : HD) (A : Option Addr) (c : Nat) : Nat -> Value -> World -> Prop
 | 1, v, _ => v = .int .i64 (jF h.full : Int)
 | 2, v, w => ∃ b, v = .slice (some ⟨b, 0, none⟩) 2 2 /\ aG w b 3 #[.int .i64 7, .int .i64 (jF h.full : Int)]
 | 4, v, _ => v = .pointer (some ⟨B, 0, none⟩)
 | 5, v, _ => v = .int .i64 h.seq
 | 6, v, w => ∃ b, v = .slice (some ⟨b, 0, none⟩) 1 1 /\ aG w b 3 #[.int .i64 h.seq]
 | 8, v, _ => v = .pointer (some ⟨B, 2, none⟩)
 | 9, v, _ => v = .slice A h.ts.length c
 | 10, v, _ => v = .int .i64 (h.ts.length : Int)
 | 11, v, w => ∃ b, v = .slice (some ⟨b, 0, none⟩) 1 1 /\ aG w b 3 #[.int .i64 (h.ts.length : Int)]
 | 13, v, _ => v = .pointer (some ⟨B, 2, none⟩)
 | 14, v, _ => v = .slice A h.ts.length c
 | _, _, _ => True
def Jg (W0 : World) (h : HD) : Nat -> Value -> World -> Prop
 | 0, _, w => Below W0.heap.size W0 w
 | 6, v, w => Below W0.heap.size W0 w /\ ∃ g, v = .pointer (some ⟨g, 0, none⟩) /\ W0.heap.size <= g /\ bF w g (gJ h 5)
 | n, v, w => Below W0.heap.size W0 w /\ ∃ g, v = .pointer (some ⟨g, 0, none⟩) /\ W0.heap.size <= g /\ bF w g (gJ h n)
theorem qT {W0 : World} {h : HD} {n : Nat} {v : Value} {w : World} (hc : Jg W0 h n v w) : Below W0.heap.size W0 w := by
 unfold Jg at hc
 split at hc
 ·exact hc
 ·exact hc.1
 ·exact hc.1
theorem oT {B : Nat} {w w' w'' : World} (h : Below B w w') (hg : w'.grownBy w'' none) (hB : B <= w'.heap.size) : Below B w w'' := h.trans ((fH hg).mono hB)
theorem Bp {W0 : World} {h : HD} (n : Nat) (v : Value) (w w' : World) (hc : Jg W0 h n v w) (hg : w.grownBy w' none) : Jg W0 h n v w' := by
 have hb := qT hc
 have hb' := oT hb hg hb.size
 unfold Jg at hc ⊢
 split at hc
 ·exact hb'
 ·obtain ⟨_, g, hv, hW, ho⟩ := hc
  exact ⟨hb', g, hv, hW, ho.kept' hg⟩
 ·obtain ⟨_, g, hv, hW, ho⟩ := hc
  exact ⟨hb', g, hv, hW, ho.kept' hg⟩
theorem Fy {B : Nat} {h : HD} {A : Option Addr} {c : Nat} (i : Nat) (v : Value) (w w' : World) (hf : AL B h A c i v w) (hg : cP 149 w w') : AL B h A c i v w' := by
 unfold AL at hf ⊢
 split at hf <;> first
  | exact hf
  | (obtain ⟨b, hv, hb⟩ := hf; exact ⟨b, hv, hb.grownT hg (by decide)⟩)
  | trivial
theorem Yq (a : Array Value) (h : a.size = 39) : ∃ x0 x1 x2 x3 x4 x5 x6 x7 x8 x9 x10 x11 x12 x13 x14 x15 x16 x17 x18 x19 x20 x21 x22 x23 x24 x25 x26 x27 x28 x29 x30 x31 x32 x33 x34 x35 x36 x37 x38 : Value, a = #[x0, x1, x2, x3, x4, x5, x6, x7, x8, x9, x10, x11, x12, x13, x14, x15, x16, x17, x18, x19, x20, x21, x22, x23, x24, x25, x26, x27, x28, x29, x30, x31, x32, x33, x34, x35, x36, x37, x38] := by
 obtain ⟨l⟩ := a
 have h : l.length = 39 := h
 obtain ⟨x0, t1, e1, h1⟩ := aB h
 obtain ⟨x1, t2, e2, h2⟩ := aB h1
 obtain ⟨x2, t3, e3, h3⟩ := aB h2
 obtain ⟨x3, t4, e4, h4⟩ := aB h3
 obtain ⟨x4, t5, e5, h5⟩ := aB h4
 obtain ⟨x5, t6, e6, h6⟩ := aB h5
 obtain ⟨x6, t7, e7, h7⟩ := aB h6
 obtain ⟨x7, t8, e8, h8⟩ := aB h7
 obtain ⟨x8, t9, e9, h9⟩ := aB h8
 obtain ⟨x9, t10, e10, h10⟩ := aB h9
 obtain ⟨x10, t11, e11, h11⟩ := aB h10
 obtain ⟨x11, t12, e12, h12⟩ := aB h11
 obtain ⟨x12, t13, e13, h13⟩ := aB h12
 obtain ⟨x13, t14, e14, h14⟩ := aB h13
 obtain ⟨x14, t15, e15, h15⟩ := aB h14
 obtain ⟨x15, t16, e16, h16⟩ := aB h15
 obtain ⟨x16, t17, e17, h17⟩ := aB h16
 obtain ⟨x17, t18, e18, h18⟩ := aB h17
 obtain ⟨x18, t19, e19, h19⟩ := aB h18
 obtain ⟨x19, t20, e20, h20⟩ := aB h19
 obtain ⟨x20, t21, e21, h21⟩ := aB h20
 obtain ⟨x21, t22, e22, h22⟩ := aB h21
 obtain ⟨x22, t23, e23, h23⟩ := aB h22
 obtain ⟨x23, t24, e24, h24⟩ := aB h23
 obtain ⟨x24, t25, e25, h25⟩ := aB h24
 obtain ⟨x25, t26, e26, h26⟩ := aB h25
 obtain ⟨x26, t27, e27, h27⟩ := aB h26
 obtain ⟨x27, t28, e28, h28⟩ := aB h27
 obtain ⟨x28, t29, e29, h29⟩ := aB h28
 obtain ⟨x29, t30, e30, h30⟩ := aB h29
 obtain ⟨x30, t31, e31, h31⟩ := aB h30
 obtain ⟨x31, t32, e32, h32⟩ := aB h31
 obtain ⟨x32, t33, e33, h33⟩ := aB h32
 obtain ⟨x33, t34, e34, h34⟩ := aB h33
 obtain ⟨x34, t35, e35, h35⟩ := aB h34
 obtain ⟨x35, t36, e36, h36⟩ := aB h35
 obtain ⟨x36, t37, e37, h37⟩ := aB h36
 obtain ⟨x37, t38, e38, h38⟩ := aB h37
 obtain ⟨x38, t39, e39, h39⟩ := aB h38
 obtain rfl := List.eq_nil_of_length_eq_zero h39
 subst e39 e38 e37 e36 e35 e34 e33 e32 e31 e30 e29 e28 e27 e26 e25 e24 e23 e22 e21 e20 e19 e18 e17 e16 e15 e14 e13 e12 e11 e10 e9 e8 e7 e6 e5 e4 e3 e2 e1
 exact ⟨x0, x1, x2, x3, x4, x5, x6, x7, x8, x9, x10, x11, x12, x13, x14, x15, x16, x17, x18, x19, x20, x21, x22, x23, x24, x25, x26, x27, x28, x29, x30, x31, x32, x33, x34, x35, x36, x37, x38, rfl⟩
theorem Fz (b : Bool) : (jF b : Int) = if b then 1 else 0 := by cases b <;> rfl
theorem Jh (h : HD) (A : Option Addr) (c : Nat) (w : World) (ha : h.At w A c) (hvb : h.validB = true) :
  Calls Tryz.prog 177 #[h.val A c] w fun e w' => e = .returned (.tuple #[.string (bs h.text), .int .i64 0]) /\ Below w.heap.size w w' := by
 have hv := HD.valid_of hvb
 have HV : Hid (∀ W, Below w.heap.size w W -> Calls Tryz.prog 199 #[h.val A c] W fun e w' => e = .returned (.bool true) /\ Below W.heap.size W w') := Lib.hid (fun W hb => by have := yD h A c W (ha.below hb); rwa [hvb] at this)
 have S2 := Lib.hid (yE h)
 have S3 := Lib.hid (sI hv)
 have S4 := Lib.hid (uX hv)
 have S5 := Lib.hid (Ga hv)
 have HVV := Lib.hid hv
 have HLIE := Lib.hid ha.lie
 have HSEAL : Hid (∀ (W : World) (X : Option Addr) (cc : Nat), dL W W.heap.size X [bs h.bytes] -> Calls Tryz.prog 86 #[.int .i64 256, .slice X 1 cc] W fun e w' => e = .returned (.tuple #[.string (bs h.text), .int .i64 0]) /\ Below W.heap.size W w') := Lib.hid (fun W X cc hx => by
  have hfit : oD [bs h.bytes] := by
   have hl := h.len
   have h2 := hv.few
   refine ⟨by simp, fun x hx => ?_⟩
   rw [List.mem_singleton.1 hx, dO]
   omega
  have := yI 256 X 1 cc [bs h.bytes] W rfl hx hfit
  rw [eW, gA] at this
  have e : kT 256 h.bytes = .tuple #[.string (bs h.text), .int .i64 0] := by unfold kT; rw [hv.sealed]; rfl
  rwa [e] at this)
 obtain ⟨T, hT⟩ : ∃ T, T = bs h.text := ⟨_, rfl⟩
 rw [<- hT] at HSEAL ⊢
 obtain ⟨Y, hY⟩ : ∃ Y, Y = bs h.bytes := ⟨_, rfl⟩
 rw [<- hY] at HSEAL
 have HYE := Lib.hid hY
 have HR2 : Hid (fD [7, (jF h.full : Int)]) := Lib.hid (by
  intro x hx
  have := wI h.full
  simp at hx
  rcases hx with rfl | rfl <;> omega)
 have HRS : Hid (fD [h.seq]) := Lib.hid (gP (by have := hv.seq; omega) (by have := hv.seq; omega))
 have HRN : Hid (fD [(h.ts.length : Int)]) := Lib.hid (gP (by omega) (by have := hv.few; omega))
 have HRT : Hid (fD h.ts) := Lib.hid (fun x hx => by have := hv.range x hx; omega)
 have HFEW : Hid (h.ts.length <= 110) := Lib.hid hv.few
 have HLEN : Hid (h.bytes.length <= 1000) := Lib.hid (by have h1 := h.len; have := hv.few; omega)
 have hval : h.val A c = .agg #[.int .i64 h.seq, .bool h.full, .slice A h.ts.length c] := rfl
 rw [hval] at HV ⊢
 obtain ⟨f, hf⟩ : ∃ f : Int, f = (jF h.full : Int) := ⟨_, rfl⟩
 have HFF := Lib.hid hf
 obtain ⟨fb, hfb⟩ : ∃ fb, fb = h.full := ⟨_, rfl⟩
 have hfv : f = if fb then 1 else 0 := by rw [hf, hfb]; exact Fz _
 obtain ⟨sq, hsq⟩ : ∃ sq, sq = h.seq := ⟨_, rfl⟩
 obtain ⟨n, hn⟩ : ∃ n, n = h.ts.length := ⟨_, rfl⟩
 have HFB := Lib.hid hfb
 have HSQ := Lib.hid hsq
 have HNN := Lib.hid hn
 rw [<- hfb, <- hsq, <- hn] at HV ⊢
 rw [<- hn] at HFEW
 rw [<- hn] at HRN
 rw [<- hsq] at HRS
 rw [<- hf] at HR2
 clear hv hvb ha hval hT hY hf hfb hsq hn
 have hnI : (n : Int) <= 110 := by have := HFEW.out; omega
 cases fb with
 | true =>
   have hf1 : f = 1 := hfv
   have HF1 := Lib.hid hf1
   clear hfv hf1
   go_enter Tryz.func177, Tryz.ntmps177
   go_wp2_with fail
   refine (HV.out _ ((Below.refl _ _).alloc (Nat.le_refl _) _)).mono ?_
   rintro e w1 ⟨rfl, hb1⟩
   have b0 : aG w1 w.heap.size 160 #[.int .i64 sq, .bool true, .slice A n c] := (aG.new w _ _).below hb1 (by simp)
   have hb : Below w.heap.size w w1 := ((Below.refl _ _).alloc (Nat.le_refl _) _).trans (hb1.mono (by simp))
   have HBW := Lib.hid hb
   have HC : Hid (∀ w', Below w1.heap.size w1 w' -> w'.cell? ⟨w.heap.size, 0, none⟩ = some (.int .i64 sq) /\ w'.cell? ⟨w.heap.size, 2, none⟩ = some (.slice A n c)) := Lib.hid (fun w' hw => ⟨(b0.below hw b0.lt).cell 0, (b0.below hw b0.lt).cell 2⟩)
   have HL1 : Hid (∀ w', Below w1.heap.size w1 w' -> dZ w' w'.heap.size A h.ts) := Lib.hid (fun w' hw => ((HLIE.out.below (hb.trans (hw.mono hb.size))).more (Nat.le_trans hb.size hw.size)))
   have x1 := b0.cell 1
   simp at x1
   clear hb1 b0 hb
   go_upto_region 6 with fail
   clear x1
   refine dW 149 17 AK 6 Zn (AL w.heap.size h A c) (Jg w1 h) (by kernel_rfl) (by kernel_rfl) rfl Lu Tn To Lv ?hcw Fy Bp ?h0 ?hloose ?hchain ?hK
   case hcw =>
    intro n hn
    rcases (show n = 0 \/ n = 1 \/ n = 2 \/ n = 3 \/ n = 4 by omega) with rfl | rfl | rfl | rfl | rfl <;> exact of_decide_eq_true (by kernel_rfl)
   case h0 => exact (Below.refl _ _).drew
   case hloose =>
    intro i hi hn y w2 hf hw hch
    obtain ⟨nn, vv, _, hcc⟩ := hch
    have hbe := qT hcc
    clear hcc
    rcases (show i = 0 \/ i = 1 \/ i = 2 \/ i = 3 \/ i = 4 \/ i = 5 \/ i = 6 \/ i = 7 \/ i = 8 \/ i = 9 \/ i = 10 \/ i = 11 \/ i = 12 \/ i = 13 \/ i = 14 \/ i = 15 \/ i = 16 by omega) with rfl | rfl | rfl | rfl | rfl | rfl | rfl | rfl | rfl | rfl | rfl | rfl | rfl | rfl | rfl | rfl | rfl
    ·exact absurd rfl (hn 0 (by omega))
    ·have e1 : y.tmps[4]?.getD undef = .int .i64 1 := by rw [hf.2.2 4 (by decide)]; rfl
     clear hf hw hn hbe
     refine aA (v := .int .i64 1) (w' := w2) rfl rfl ?_ ⟨_, rfl, (fun h => by cases h), aC _ _, ?_⟩
     ·go_simp
     ·show _ = _
      rw [<- HF1.out, HFF.out]
    ·have e1 : y.tmps[14]?.getD undef = .int .i64 f := (hw 1 (of_decide_eq_true (by kernel_rfl))).trans (by rw [HFF.out])
     clear hf hw hn hbe
     refine aA (v := .slice (some ⟨w2.heap.size, 0, none⟩) 2 2) (w' := w2.alloc (.cells #[.int .i64 7, .int .i64 f] 3)) rfl rfl ?_ ⟨_, rfl, (fun h => by cases h), bH (aC _ _) _, ?_⟩
     ·go_simp
     ·show ∃ b, _ /\ aG _ b 3 #[.int .i64 7, .int .i64 (jF h.full : Int)]
      rw [<- HFF.out]
      exact ⟨_, rfl, aG.new _ _ _⟩
    ·exact absurd rfl (hn 1 (by omega))
    ·have e1 : y.tmps[1]?.getD undef = .pointer (some ⟨w.heap.size, 0, none⟩) := by rw [hf.2.2 1 (by decide)]; rfl
     clear hf hw hn hbe
     refine aA (v := .pointer (some ⟨w.heap.size, 0, none⟩)) (w' := w2) rfl rfl ?_ ⟨_, rfl, (fun h => by cases h), aC _ _, ?_⟩
     ·go_simp
     ·show _ = _
      exact rfl
    ·have e1 : y.tmps[17]?.getD undef = .pointer (some ⟨w.heap.size, 0, none⟩) := hw 4 (of_decide_eq_true (by kernel_rfl))
     obtain ⟨c0, c2⟩ := HC.out w2 hbe
     clear hf hw hn hbe
     refine aA (v := .int .i64 sq) (w' := w2) rfl rfl ?_ ⟨_, rfl, (fun h => by cases h), aC _ _, ?_⟩
     ·go_simp
     ·show _ = _
      rw [HSQ.out]
    ·have e1 : y.tmps[18]?.getD undef = .int .i64 sq := (hw 5 (of_decide_eq_true (by kernel_rfl))).trans (by rw [HSQ.out])
     clear hf hw hn hbe
     refine aA (v := .slice (some ⟨w2.heap.size, 0, none⟩) 1 1) (w' := w2.alloc (.cells #[.int .i64 sq] 3)) rfl rfl ?_ ⟨_, rfl, (fun h => by cases h), bH (aC _ _) _, ?_⟩
     ·go_simp
     ·show ∃ b, _ /\ aG _ b 3 #[.int .i64 h.seq]
      rw [<- HSQ.out]
      exact ⟨_, rfl, aG.new _ _ _⟩
    ·exact absurd rfl (hn 2 (by omega))
    ·have e1 : y.tmps[1]?.getD undef = .pointer (some ⟨w.heap.size, 0, none⟩) := by rw [hf.2.2 1 (by decide)]; rfl
     clear hf hw hn hbe
     refine aA (v := .pointer (some ⟨w.heap.size, 2, none⟩)) (w' := w2) rfl rfl ?_ ⟨_, rfl, (fun h => by cases h), aC _ _, ?_⟩
     ·go_simp
     ·show _ = _
      exact rfl
    ·have e1 : y.tmps[21]?.getD undef = .pointer (some ⟨w.heap.size, 2, none⟩) := hw 8 (of_decide_eq_true (by kernel_rfl))
     obtain ⟨c0, c2⟩ := HC.out w2 hbe
     clear hf hw hn hbe
     refine aA (v := .slice A n c) (w' := w2) rfl rfl ?_ ⟨_, rfl, (fun h => by cases h), aC _ _, ?_⟩
     ·go_simp
     ·show _ = _
      rw [HNN.out]
    ·have e1 : y.tmps[22]?.getD undef = .slice A n c := (hw 9 (of_decide_eq_true (by kernel_rfl))).trans (by rw [HNN.out])
     clear hf hw hn hbe
     refine aA (v := .int .i64 (n : Int)) (w' := w2) rfl rfl ?_ ⟨_, rfl, (fun h => by cases h), aC _ _, ?_⟩
     ·go_simp
     ·show _ = _
      rw [HNN.out]
    ·have e1 : y.tmps[23]?.getD undef = .int .i64 (n : Int) := (hw 10 (of_decide_eq_true (by kernel_rfl))).trans (by rw [HNN.out])
     clear hf hw hn hbe
     refine aA (v := .slice (some ⟨w2.heap.size, 0, none⟩) 1 1) (w' := w2.alloc (.cells #[.int .i64 (n : Int)] 3)) rfl rfl ?_ ⟨_, rfl, (fun h => by cases h), bH (aC _ _) _, ?_⟩
     ·go_simp
     ·show ∃ b, _ /\ aG _ b 3 #[.int .i64 (h.ts.length : Int)]
      rw [<- HNN.out]
      exact ⟨_, rfl, aG.new _ _ _⟩
    ·exact absurd rfl (hn 3 (by omega))
    ·have e1 : y.tmps[1]?.getD undef = .pointer (some ⟨w.heap.size, 0, none⟩) := by rw [hf.2.2 1 (by decide)]; rfl
     clear hf hw hn hbe
     refine aA (v := .pointer (some ⟨w.heap.size, 2, none⟩)) (w' := w2) rfl rfl ?_ ⟨_, rfl, (fun h => by cases h), aC _ _, ?_⟩
     ·go_simp
     ·show _ = _
      exact rfl
    ·have e1 : y.tmps[26]?.getD undef = .pointer (some ⟨w.heap.size, 2, none⟩) := hw 13 (of_decide_eq_true (by kernel_rfl))
     obtain ⟨c0, c2⟩ := HC.out w2 hbe
     clear hf hw hn hbe
     refine aA (v := .slice A n c) (w' := w2) rfl rfl ?_ ⟨_, rfl, (fun h => by cases h), aC _ _, ?_⟩
     ·go_simp
     ·show _ = _
      rw [HNN.out]
    ·exact absurd rfl (hn 4 (by omega))
    ·exact absurd rfl (hn 5 (by omega))
   case hchain =>
    intro m hm y w2 hf hw hch
    rcases (show m = 0 \/ m = 1 \/ m = 2 \/ m = 3 \/ m = 4 \/ m = 5 by omega) with rfl | rfl | rfl | rfl | rfl | rfl
    ·have hbe : Below w1.heap.size w1 w2 := hch
     clear hf hw hch
     change wpOp _ _ _ 0 _ _ _
     refine aA (v := .pointer (some ⟨w2.heap.size, 0, none⟩)) (w' := w2.alloc (.cells #[.pointer none, .int .i64 0, .int .i64 0] 149)) rfl rfl ?_ ⟨_, rfl, (fun h => by cases h), cP.of_none (bH (aC _ _) _), ⟨hbe.alloc hbe.size _, _, rfl, hbe.size, bF.new w2⟩, trivial⟩
     go_simp
    ·obtain ⟨hbe, g, hg, hgW, ho⟩ := hch
     have e1 : y.tmps[13]?.getD undef = .pointer (some ⟨g, 0, none⟩) := hg
     obtain ⟨b, e2, hbk⟩ : ∃ b, y.tmps[15]?.getD undef = .slice (some ⟨b, 0, none⟩) 2 2 /\ aG w2 b 3 #[.int .i64 7, .int .i64 (jF h.full : Int)] := hw 2 (of_decide_eq_true (by kernel_rfl))
     rw [<- HFF.out] at hbk
     clear hf hw hg
     change wpOp _ _ _ 3 _ _ _
     refine aP (f := 82) (args := #[.pointer (some ⟨g, 0, none⟩), .slice (some ⟨b, 0, none⟩) 2 2]) rfl rfl (by go_simp) ((oJ g _ _ 2 2 [7, f] w2 rfl (tO hbk) (by simp) HR2.out ho (by simp [gJ])).mono ?_)
     rintro e w3 ⟨rfl, h3, hg3⟩
     refine ⟨_, rfl, _, rfl, (fun h => by cases h), ho.grownT' hg3, ⟨aH hbe hg3 hgW, g, rfl, hgW, ?_⟩, trivial⟩
     ·show bF w3 g (Wr.nums ⟨[], 0⟩ 1 [7, (jF h.full : Int)])
      rw [<- HFF.out]
      exact h3
    ·obtain ⟨hbe, g, hg, hgW, ho⟩ := hch
     have e1 : y.tmps[16]?.getD undef = .pointer (some ⟨g, 0, none⟩) := hg
     obtain ⟨b, e2, hbk⟩ : ∃ b, y.tmps[19]?.getD undef = .slice (some ⟨b, 0, none⟩) 1 1 /\ aG w2 b 3 #[.int .i64 h.seq] := hw 6 (of_decide_eq_true (by kernel_rfl))
     rw [<- HSQ.out] at hbk
     clear hf hw hg
     change wpOp _ _ _ 7 _ _ _
     refine aP (f := 200) (args := #[.pointer (some ⟨g, 0, none⟩), .slice (some ⟨b, 0, none⟩) 1 1]) rfl rfl (by go_simp) ((Fd g _ _ 1 1 [sq] w2 rfl (kD hbk) (by simp) HRS.out ho (by rw [S2.out]; simp [aL])).mono ?_)
     rintro e w3 ⟨rfl, h3, hg3⟩
     refine ⟨_, rfl, _, rfl, (fun h => by cases h), ho.grownT' hg3, ⟨aH hbe hg3 hgW, g, rfl, hgW, ?_⟩, trivial⟩
     ·show bF w3 g (Wr.nums (gJ h 2) 8 [h.seq])
      rw [<- HSQ.out]
      exact h3
    ·obtain ⟨hbe, g, hg, hgW, ho⟩ := hch
     have e1 : y.tmps[20]?.getD undef = .pointer (some ⟨g, 0, none⟩) := hg
     obtain ⟨b, e2, hbk⟩ : ∃ b, y.tmps[24]?.getD undef = .slice (some ⟨b, 0, none⟩) 1 1 /\ aG w2 b 3 #[.int .i64 (h.ts.length : Int)] := hw 11 (of_decide_eq_true (by kernel_rfl))
     rw [<- HNN.out] at hbk
     clear hf hw hg
     change wpOp _ _ _ 12 _ _ _
     refine aP (f := 83) (args := #[.pointer (some ⟨g, 0, none⟩), .slice (some ⟨b, 0, none⟩) 1 1]) rfl rfl (by go_simp) ((mP g _ _ 1 1 [(n : Int)] w2 rfl (kD hbk) (by simp) HRN.out ho (by rw [S3.out]; simp [aL])).mono ?_)
     rintro e w3 ⟨rfl, h3, hg3⟩
     refine ⟨_, rfl, _, rfl, (fun h => by cases h), ho.grownT' hg3, ⟨aH hbe hg3 hgW, g, rfl, hgW, ?_⟩, trivial⟩
     ·show bF w3 g (Wr.nums (gJ h 3) 2 [(h.ts.length : Int)])
      rw [<- HNN.out]
      exact h3
    ·obtain ⟨hbe, g, hg, hgW, ho⟩ := hch
     have e1 : y.tmps[25]?.getD undef = .pointer (some ⟨g, 0, none⟩) := hg
     have e2 : y.tmps[27]?.getD undef = .slice A n c := (hw 14 (of_decide_eq_true (by kernel_rfl))).trans (by rw [HNN.out])
     clear hf hw hg
     change wpOp _ _ _ 15 _ _ _
     refine aP (f := 83) (args := #[.pointer (some ⟨g, 0, none⟩), .slice A n c]) rfl rfl (by go_simp) ((mP g _ A n c h.ts w2 HNN.out.symm (HL1.out w2 hbe) (by have := HNN.out; omega) HRT.out ho (by rw [S4.out]; simp [aL])).mono ?_)
     rintro e w3 ⟨rfl, h3, hg3⟩
     exact ⟨_, rfl, _, rfl, (fun h => by cases h), ho.grownT' hg3, ⟨aH hbe hg3 hgW, g, rfl, hgW, h3⟩, trivial⟩
    ·obtain ⟨hbe, g, hg, hgW, ho⟩ := hch
     have e1 : y.tmps[28]?.getD undef = .pointer (some ⟨g, 0, none⟩) := hg
     clear hf hw hg
     change wpOp _ _ _ 16 _ _ _
     refine aA (v := .pointer (some ⟨g, 0, none⟩)) (w' := w2) rfl rfl ?_ ⟨_, rfl, (fun h => by cases h), cP.of_none (aC _ _), ⟨hbe, g, rfl, hgW, ho⟩, trivial⟩
     go_simp
   case hK =>
    intro y w2 hf hv hch
    obtain ⟨hbe, g, hg, hgW, ho⟩ := hch
    have e5 : y.tmps[5]?.getD undef = .pointer (some ⟨g, 0, none⟩) := hg
    have hd : y.defers = [] := hf.1
    have hsz : y.tmps.size = 39 := hf.2.1
    obtain ⟨tt, dd⟩ := y
    obtain rfl : dd = [] := hd
    have hsz : tt.size = 39 := hsz
    have HBE : Hid (Below w.heap.size w w2) := Lib.hid (HBW.out.trans (hbe.mono HBW.out.size))
    have HO := Lib.hid ho
    have HFIN : Hid (Calls Tryz.prog 85 #[.pointer (some ⟨g, 0, none⟩)] w2 fun e w' => e = .returned (.tuple #[.string Y, .int .i64 0]) /\ Below w2.heap.size w2 w') := Lib.hid (by
     have h1 := nE g _ w2 ho (by rw [S5.out]; exact Wr.ok_zero _) (by rw [S5.out]; have := HLEN.out; show h.bytes.length <= _; omega)
     rw [S5.out] at h1
     refine h1.mono ?_
     rintro e w3 ⟨rfl, _, hb⟩
     exact ⟨by rw [HYE.out]; rfl, hb⟩)
    have e5' : tt[5]?.getD undef = .pointer (some ⟨g, 0, none⟩) := e5
    clear hf hv hg e5 hbe ho hgW
    obtain ⟨x0, x1, x2, x3, x4, x5, x6, x7, x8, x9, x10, x11, x12, x13, x14, x15, x16, x17, x18, x19, x20, x21, x22, x23, x24, x25, x26, x27, x28, x29, x30, x31, x32, x33, x34, x35, x36, x37, x38, rfl⟩ := Yq tt hsz
    obtain rfl : x5 = .pointer (some ⟨g, 0, none⟩) := by simpa using e5'
    clear e5' hsz
    go_wp2_with fail
    refine HFIN.out.mono ?_
    rintro e w3 ⟨rfl, hb3⟩
    have HB3 : Hid (Below w.heap.size w w3) := Lib.hid (HBE.out.trans (hb3.mono HBE.out.size))
    go_wp2_with fail
    refine (HSEAL.out _ _ _ (jU _ _ _ _ rfl rfl)).mono ?_
    rintro e w4 ⟨rfl, hb4⟩
    go_wp2_with fail
    go_ret2
    exact ⟨rfl, (HB3.out.alloc HB3.out.size _).trans (hb4.mono (by have := HB3.out.size; simp; omega))⟩
 | false =>
   have hf1 : f = 0 := hfv
   have HF1 := Lib.hid hf1
   clear hfv hf1
   go_enter Tryz.func177, Tryz.ntmps177
   go_wp2_with fail
   refine (HV.out _ ((Below.refl _ _).alloc (Nat.le_refl _) _)).mono ?_
   rintro e w1 ⟨rfl, hb1⟩
   have b0 : aG w1 w.heap.size 160 #[.int .i64 sq, .bool false, .slice A n c] := (aG.new w _ _).below hb1 (by simp)
   have hb : Below w.heap.size w w1 := ((Below.refl _ _).alloc (Nat.le_refl _) _).trans (hb1.mono (by simp))
   have HBW := Lib.hid hb
   have HC : Hid (∀ w', Below w1.heap.size w1 w' -> w'.cell? ⟨w.heap.size, 0, none⟩ = some (.int .i64 sq) /\ w'.cell? ⟨w.heap.size, 2, none⟩ = some (.slice A n c)) := Lib.hid (fun w' hw => ⟨(b0.below hw b0.lt).cell 0, (b0.below hw b0.lt).cell 2⟩)
   have HL1 : Hid (∀ w', Below w1.heap.size w1 w' -> dZ w' w'.heap.size A h.ts) := Lib.hid (fun w' hw => ((HLIE.out.below (hb.trans (hw.mono hb.size))).more (Nat.le_trans hb.size hw.size)))
   have x1 := b0.cell 1
   simp at x1
   clear hb1 b0 hb
   go_upto_region 6 with fail
   clear x1
   refine dW 149 17 AK 6 Zn (AL w.heap.size h A c) (Jg w1 h) (by kernel_rfl) (by kernel_rfl) rfl Lu Tn To Lv ?hcw Fy Bp ?h0 ?hloose ?hchain ?hK
   case hcw =>
    intro n hn
    rcases (show n = 0 \/ n = 1 \/ n = 2 \/ n = 3 \/ n = 4 by omega) with rfl | rfl | rfl | rfl | rfl <;> exact of_decide_eq_true (by kernel_rfl)
   case h0 => exact (Below.refl _ _).drew
   case hloose =>
    intro i hi hn y w2 hf hw hch
    obtain ⟨nn, vv, _, hcc⟩ := hch
    have hbe := qT hcc
    clear hcc
    rcases (show i = 0 \/ i = 1 \/ i = 2 \/ i = 3 \/ i = 4 \/ i = 5 \/ i = 6 \/ i = 7 \/ i = 8 \/ i = 9 \/ i = 10 \/ i = 11 \/ i = 12 \/ i = 13 \/ i = 14 \/ i = 15 \/ i = 16 by omega) with rfl | rfl | rfl | rfl | rfl | rfl | rfl | rfl | rfl | rfl | rfl | rfl | rfl | rfl | rfl | rfl | rfl
    ·exact absurd rfl (hn 0 (by omega))
    ·have e1 : y.tmps[4]?.getD undef = .int .i64 0 := by rw [hf.2.2 4 (by decide)]; rfl
     clear hf hw hn hbe
     refine aA (v := .int .i64 0) (w' := w2) rfl rfl ?_ ⟨_, rfl, (fun h => by cases h), aC _ _, ?_⟩
     ·go_simp
     ·show _ = _
      rw [<- HF1.out, HFF.out]
    ·have e1 : y.tmps[14]?.getD undef = .int .i64 f := (hw 1 (of_decide_eq_true (by kernel_rfl))).trans (by rw [HFF.out])
     clear hf hw hn hbe
     refine aA (v := .slice (some ⟨w2.heap.size, 0, none⟩) 2 2) (w' := w2.alloc (.cells #[.int .i64 7, .int .i64 f] 3)) rfl rfl ?_ ⟨_, rfl, (fun h => by cases h), bH (aC _ _) _, ?_⟩
     ·go_simp
     ·show ∃ b, _ /\ aG _ b 3 #[.int .i64 7, .int .i64 (jF h.full : Int)]
      rw [<- HFF.out]
      exact ⟨_, rfl, aG.new _ _ _⟩
    ·exact absurd rfl (hn 1 (by omega))
    ·have e1 : y.tmps[1]?.getD undef = .pointer (some ⟨w.heap.size, 0, none⟩) := by rw [hf.2.2 1 (by decide)]; rfl
     clear hf hw hn hbe
     refine aA (v := .pointer (some ⟨w.heap.size, 0, none⟩)) (w' := w2) rfl rfl ?_ ⟨_, rfl, (fun h => by cases h), aC _ _, ?_⟩
     ·go_simp
     ·show _ = _
      exact rfl
    ·have e1 : y.tmps[17]?.getD undef = .pointer (some ⟨w.heap.size, 0, none⟩) := hw 4 (of_decide_eq_true (by kernel_rfl))
     obtain ⟨c0, c2⟩ := HC.out w2 hbe
     clear hf hw hn hbe
     refine aA (v := .int .i64 sq) (w' := w2) rfl rfl ?_ ⟨_, rfl, (fun h => by cases h), aC _ _, ?_⟩
     ·go_simp
     ·show _ = _
      rw [HSQ.out]
    ·have e1 : y.tmps[18]?.getD undef = .int .i64 sq := (hw 5 (of_decide_eq_true (by kernel_rfl))).trans (by rw [HSQ.out])
     clear hf hw hn hbe
     refine aA (v := .slice (some ⟨w2.heap.size, 0, none⟩) 1 1) (w' := w2.alloc (.cells #[.int .i64 sq] 3)) rfl rfl ?_ ⟨_, rfl, (fun h => by cases h), bH (aC _ _) _, ?_⟩
     ·go_simp
     ·show ∃ b, _ /\ aG _ b 3 #[.int .i64 h.seq]
      rw [<- HSQ.out]
      exact ⟨_, rfl, aG.new _ _ _⟩
    ·exact absurd rfl (hn 2 (by omega))
    ·have e1 : y.tmps[1]?.getD undef = .pointer (some ⟨w.heap.size, 0, none⟩) := by rw [hf.2.2 1 (by decide)]; rfl
     clear hf hw hn hbe
     refine aA (v := .pointer (some ⟨w.heap.size, 2, none⟩)) (w' := w2) rfl rfl ?_ ⟨_, rfl, (fun h => by cases h), aC _ _, ?_⟩
     ·go_simp
     ·show _ = _
      exact rfl
    ·have e1 : y.tmps[21]?.getD undef = .pointer (some ⟨w.heap.size, 2, none⟩) := hw 8 (of_decide_eq_true (by kernel_rfl))
     obtain ⟨c0, c2⟩ := HC.out w2 hbe
     clear hf hw hn hbe
     refine aA (v := .slice A n c) (w' := w2) rfl rfl ?_ ⟨_, rfl, (fun h => by cases h), aC _ _, ?_⟩
     ·go_simp
     ·show _ = _
      rw [HNN.out]
    ·have e1 : y.tmps[22]?.getD undef = .slice A n c := (hw 9 (of_decide_eq_true (by kernel_rfl))).trans (by rw [HNN.out])
     clear hf hw hn hbe
     refine aA (v := .int .i64 (n : Int)) (w' := w2) rfl rfl ?_ ⟨_, rfl, (fun h => by cases h), aC _ _, ?_⟩
     ·go_simp
     ·show _ = _
      rw [HNN.out]
    ·have e1 : y.tmps[23]?.getD undef = .int .i64 (n : Int) := (hw 10 (of_decide_eq_true (by kernel_rfl))).trans (by rw [HNN.out])
     clear hf hw hn hbe
     refine aA (v := .slice (some ⟨w2.heap.size, 0, none⟩) 1 1) (w' := w2.alloc (.cells #[.int .i64 (n : Int)] 3)) rfl rfl ?_ ⟨_, rfl, (fun h => by cases h), bH (aC _ _) _, ?_⟩
     ·go_simp
     ·show ∃ b, _ /\ aG _ b 3 #[.int .i64 (h.ts.length : Int)]
      rw [<- HNN.out]
      exact ⟨_, rfl, aG.new _ _ _⟩
    ·exact absurd rfl (hn 3 (by omega))
    ·have e1 : y.tmps[1]?.getD undef = .pointer (some ⟨w.heap.size, 0, none⟩) := by rw [hf.2.2 1 (by decide)]; rfl
     clear hf hw hn hbe
     refine aA (v := .pointer (some ⟨w.heap.size, 2, none⟩)) (w' := w2) rfl rfl ?_ ⟨_, rfl, (fun h => by cases h), aC _ _, ?_⟩
     ·go_simp
     ·show _ = _
      exact rfl
    ·have e1 : y.tmps[26]?.getD undef = .pointer (some ⟨w.heap.size, 2, none⟩) := hw 13 (of_decide_eq_true (by kernel_rfl))
     obtain ⟨c0, c2⟩ := HC.out w2 hbe
     clear hf hw hn hbe
     refine aA (v := .slice A n c) (w' := w2) rfl rfl ?_ ⟨_, rfl, (fun h => by cases h), aC _ _, ?_⟩
     ·go_simp
     ·show _ = _
      rw [HNN.out]
    ·exact absurd rfl (hn 4 (by omega))
    ·exact absurd rfl (hn 5 (by omega))
   case hchain =>
    intro m hm y w2 hf hw hch
    rcases (show m = 0 \/ m = 1 \/ m = 2 \/ m = 3 \/ m = 4 \/ m = 5 by omega) with rfl | rfl | rfl | rfl | rfl | rfl
    ·have hbe : Below w1.heap.size w1 w2 := hch
     clear hf hw hch
     change wpOp _ _ _ 0 _ _ _
     refine aA (v := .pointer (some ⟨w2.heap.size, 0, none⟩)) (w' := w2.alloc (.cells #[.pointer none, .int .i64 0, .int .i64 0] 149)) rfl rfl ?_ ⟨_, rfl, (fun h => by cases h), cP.of_none (bH (aC _ _) _), ⟨hbe.alloc hbe.size _, _, rfl, hbe.size, bF.new w2⟩, trivial⟩
     go_simp
    ·obtain ⟨hbe, g, hg, hgW, ho⟩ := hch
     have e1 : y.tmps[13]?.getD undef = .pointer (some ⟨g, 0, none⟩) := hg
     obtain ⟨b, e2, hbk⟩ : ∃ b, y.tmps[15]?.getD undef = .slice (some ⟨b, 0, none⟩) 2 2 /\ aG w2 b 3 #[.int .i64 7, .int .i64 (jF h.full : Int)] := hw 2 (of_decide_eq_true (by kernel_rfl))
     rw [<- HFF.out] at hbk
     clear hf hw hg
     change wpOp _ _ _ 3 _ _ _
     refine aP (f := 82) (args := #[.pointer (some ⟨g, 0, none⟩), .slice (some ⟨b, 0, none⟩) 2 2]) rfl rfl (by go_simp) ((oJ g _ _ 2 2 [7, f] w2 rfl (tO hbk) (by simp) HR2.out ho (by simp [gJ])).mono ?_)
     rintro e w3 ⟨rfl, h3, hg3⟩
     refine ⟨_, rfl, _, rfl, (fun h => by cases h), ho.grownT' hg3, ⟨aH hbe hg3 hgW, g, rfl, hgW, ?_⟩, trivial⟩
     ·show bF w3 g (Wr.nums ⟨[], 0⟩ 1 [7, (jF h.full : Int)])
      rw [<- HFF.out]
      exact h3
    ·obtain ⟨hbe, g, hg, hgW, ho⟩ := hch
     have e1 : y.tmps[16]?.getD undef = .pointer (some ⟨g, 0, none⟩) := hg
     obtain ⟨b, e2, hbk⟩ : ∃ b, y.tmps[19]?.getD undef = .slice (some ⟨b, 0, none⟩) 1 1 /\ aG w2 b 3 #[.int .i64 h.seq] := hw 6 (of_decide_eq_true (by kernel_rfl))
     rw [<- HSQ.out] at hbk
     clear hf hw hg
     change wpOp _ _ _ 7 _ _ _
     refine aP (f := 200) (args := #[.pointer (some ⟨g, 0, none⟩), .slice (some ⟨b, 0, none⟩) 1 1]) rfl rfl (by go_simp) ((Fd g _ _ 1 1 [sq] w2 rfl (kD hbk) (by simp) HRS.out ho (by rw [S2.out]; simp [aL])).mono ?_)
     rintro e w3 ⟨rfl, h3, hg3⟩
     refine ⟨_, rfl, _, rfl, (fun h => by cases h), ho.grownT' hg3, ⟨aH hbe hg3 hgW, g, rfl, hgW, ?_⟩, trivial⟩
     ·show bF w3 g (Wr.nums (gJ h 2) 8 [h.seq])
      rw [<- HSQ.out]
      exact h3
    ·obtain ⟨hbe, g, hg, hgW, ho⟩ := hch
     have e1 : y.tmps[20]?.getD undef = .pointer (some ⟨g, 0, none⟩) := hg
     obtain ⟨b, e2, hbk⟩ : ∃ b, y.tmps[24]?.getD undef = .slice (some ⟨b, 0, none⟩) 1 1 /\ aG w2 b 3 #[.int .i64 (h.ts.length : Int)] := hw 11 (of_decide_eq_true (by kernel_rfl))
     rw [<- HNN.out] at hbk
     clear hf hw hg
     change wpOp _ _ _ 12 _ _ _
     refine aP (f := 83) (args := #[.pointer (some ⟨g, 0, none⟩), .slice (some ⟨b, 0, none⟩) 1 1]) rfl rfl (by go_simp) ((mP g _ _ 1 1 [(n : Int)] w2 rfl (kD hbk) (by simp) HRN.out ho (by rw [S3.out]; simp [aL])).mono ?_)
     rintro e w3 ⟨rfl, h3, hg3⟩
     refine ⟨_, rfl, _, rfl, (fun h => by cases h), ho.grownT' hg3, ⟨aH hbe hg3 hgW, g, rfl, hgW, ?_⟩, trivial⟩
     ·show bF w3 g (Wr.nums (gJ h 3) 2 [(h.ts.length : Int)])
      rw [<- HNN.out]
      exact h3
    ·obtain ⟨hbe, g, hg, hgW, ho⟩ := hch
     have e1 : y.tmps[25]?.getD undef = .pointer (some ⟨g, 0, none⟩) := hg
     have e2 : y.tmps[27]?.getD undef = .slice A n c := (hw 14 (of_decide_eq_true (by kernel_rfl))).trans (by rw [HNN.out])
     clear hf hw hg
     change wpOp _ _ _ 15 _ _ _
     refine aP (f := 83) (args := #[.pointer (some ⟨g, 0, none⟩), .slice A n c]) rfl rfl (by go_simp) ((mP g _ A n c h.ts w2 HNN.out.symm (HL1.out w2 hbe) (by have := HNN.out; omega) HRT.out ho (by rw [S4.out]; simp [aL])).mono ?_)
     rintro e w3 ⟨rfl, h3, hg3⟩
     exact ⟨_, rfl, _, rfl, (fun h => by cases h), ho.grownT' hg3, ⟨aH hbe hg3 hgW, g, rfl, hgW, h3⟩, trivial⟩
    ·obtain ⟨hbe, g, hg, hgW, ho⟩ := hch
     have e1 : y.tmps[28]?.getD undef = .pointer (some ⟨g, 0, none⟩) := hg
     clear hf hw hg
     change wpOp _ _ _ 16 _ _ _
     refine aA (v := .pointer (some ⟨g, 0, none⟩)) (w' := w2) rfl rfl ?_ ⟨_, rfl, (fun h => by cases h), cP.of_none (aC _ _), ⟨hbe, g, rfl, hgW, ho⟩, trivial⟩
     go_simp
   case hK =>
    intro y w2 hf hv hch
    obtain ⟨hbe, g, hg, hgW, ho⟩ := hch
    have e5 : y.tmps[5]?.getD undef = .pointer (some ⟨g, 0, none⟩) := hg
    have hd : y.defers = [] := hf.1
    have hsz : y.tmps.size = 39 := hf.2.1
    obtain ⟨tt, dd⟩ := y
    obtain rfl : dd = [] := hd
    have hsz : tt.size = 39 := hsz
    have HBE : Hid (Below w.heap.size w w2) := Lib.hid (HBW.out.trans (hbe.mono HBW.out.size))
    have HO := Lib.hid ho
    have HFIN : Hid (Calls Tryz.prog 85 #[.pointer (some ⟨g, 0, none⟩)] w2 fun e w' => e = .returned (.tuple #[.string Y, .int .i64 0]) /\ Below w2.heap.size w2 w') := Lib.hid (by
     have h1 := nE g _ w2 ho (by rw [S5.out]; exact Wr.ok_zero _) (by rw [S5.out]; have := HLEN.out; show h.bytes.length <= _; omega)
     rw [S5.out] at h1
     refine h1.mono ?_
     rintro e w3 ⟨rfl, _, hb⟩
     exact ⟨by rw [HYE.out]; rfl, hb⟩)
    have e5' : tt[5]?.getD undef = .pointer (some ⟨g, 0, none⟩) := e5
    clear hf hv hg e5 hbe ho hgW
    obtain ⟨x0, x1, x2, x3, x4, x5, x6, x7, x8, x9, x10, x11, x12, x13, x14, x15, x16, x17, x18, x19, x20, x21, x22, x23, x24, x25, x26, x27, x28, x29, x30, x31, x32, x33, x34, x35, x36, x37, x38, rfl⟩ := Yq tt hsz
    obtain rfl : x5 = .pointer (some ⟨g, 0, none⟩) := by simpa using e5'
    clear e5' hsz
    go_wp2_with fail
    refine HFIN.out.mono ?_
    rintro e w3 ⟨rfl, hb3⟩
    have HB3 : Hid (Below w.heap.size w w3) := Lib.hid (HBE.out.trans (hb3.mono HBE.out.size))
    go_wp2_with fail
    refine (HSEAL.out _ _ _ (jU _ _ _ _ rfl rfl)).mono ?_
    rintro e w4 ⟨rfl, hb4⟩
    go_wp2_with fail
    go_ret2
    exact ⟨rfl, (HB3.out.alloc HB3.out.size _).trans (hb4.mono (by have := HB3.out.size; simp; omega))⟩
theorem Xc (h : HD) (A : Option Addr) (c : Nat) (w : World) (ha : h.At w A c) (hvb : h.validB = false) :
  Calls Tryz.prog 177 #[h.val A c] w fun e w' => e = .returned (.tuple #[.string ⟨#[]⟩, .int .i64 1]) /\ Below w.heap.size w w' := by
 have HV : Hid (∀ W, Below w.heap.size w W -> Calls Tryz.prog 199 #[h.val A c] W fun e w' => e = .returned (.bool false) /\ Below W.heap.size W w') := Lib.hid (fun W hb => by have := yD h A c W (ha.below hb); rwa [hvb] at this)
 have hval : h.val A c = .agg #[.int .i64 h.seq, .bool h.full, .slice A h.ts.length c] := rfl
 rw [hval] at HV ⊢
 obtain ⟨f, hf⟩ : ∃ f, f = h.full := ⟨_, rfl⟩
 obtain ⟨q, hq⟩ : ∃ q, q = h.seq := ⟨_, rfl⟩
 obtain ⟨n, hn⟩ : ∃ n, n = h.ts.length := ⟨_, rfl⟩
 rw [<- hf, <- hq, <- hn] at HV ⊢
 clear ha hvb hval hf hq hn
 go_enter Tryz.func177, Tryz.ntmps177
 go_wp2_with fail
 refine (HV.out _ ((Below.refl _ _).alloc (Nat.le_refl _) _)).mono ?_
 rintro e w1 ⟨rfl, hb1⟩
 go_wp2_with fail
 go_ret2
 exact ⟨rfl, ((Below.refl _ _).alloc (Nat.le_refl _) _).trans (hb1.mono (by simp))⟩
theorem yC (h : HD) (A : Option Addr) (c : Nat) (w : World) (ha : h.At w A c) :
  Calls Tryz.prog 177 #[h.val A c] w fun e w' => e = .returned (if h.validB then .tuple #[.string (bs h.text), .int .i64 0] else .tuple #[.string ⟨#[]⟩, .int .i64 1]) /\ Below w.heap.size w w' := by
 cases hv : h.validB with
 | true => rw [if_pos rfl]; exact Jh h A c w ha hv
 | false =>
   rw [if_neg (by decide)]
   exact Xc h A c w ha hv
set_option maxRecDepth 100000
set_option maxHeartbeats 2000000
def eS (gd : Nat) (seq : Int) (up : Bool) (k : Int) : Array Value := #[.pointer (some ⟨gd, 0, none⟩), .int .i64 seq, .bool false, .slice none 0 0, .bool up, .int .i64 k]
section
variable {w : World} {gw gd n : Nat} {seq k : Int} {up : Bool} {O : List Nat} {S : DS}
theorem Bl (h : aG w gw 162 (eS gd seq up k)) (hd : bE w O gd S) (hn : S.now.length = n) (h1 : 111 <= n) (h2 : n <= 2000) :
  Calls Tryz.prog 55 #[.pointer (some ⟨gw, 0, none⟩)] w fun e w' => e = .returned (.int .i64 ((n : Int) - 111)) /\ w = w' := by
 have c0 := h.cell 0
 simp [eS] at c0
 have HS : Hid (Calls Tryz.prog 96 #[.pointer (some ⟨gd, 0, none⟩)] w fun e w' => e = .returned (.int .i64 (n : Int)) /\ w = w') := Lib.hid (by rw [<- hn]; exact Od hd)
 have h1 : (111 : Int) <= (n : Int) := by omega
 have h2 : (n : Int) <= 2000 := by omega
 have hm : max 0 ((n : Int) - 111) = (n : Int) - 111 := by omega
 clear h hd hn
 go_enter Tryz.func55, Tryz.ntmps55
 go_wp2_with (go_at_call 96; refine HS.out.mono ?_; rintro e w1 ⟨rfl, rfl⟩)
 go_ret
 exact ⟨rfl, rfl⟩
theorem Fo (at_ : Int) (h : aG w gw 162 (eS gd seq up k)) (hd : bE w O gd S) (hn : S.now.length = n) (h1 : 111 <= n) (h2 : n <= 2000) :
  Calls Tryz.prog 165 #[.pointer (some ⟨gw, 0, none⟩), .int .i64 at_] w fun e w' => e = .returned (.bool (decide (0 <= at_ /\ at_ < (n : Int) - 111))) /\ w = w' := by
 have HS := Lib.hid (Bl h hd hn h1 h2)
 clear h hd hn h1 h2
 by_cases h0 : 0 <= at_
 ·by_cases h3 : at_ < (n : Int) - 111
  ·rw [show decide (0 <= at_ /\ at_ < (n : Int) - 111) = true by simp; omega]
   go_enter Tryz.func165, Tryz.ntmps165
   go_wp2_with (go_at_call 55; refine HS.out.mono ?_; rintro e w1 ⟨rfl, rfl⟩)
   go_ret
   exact ⟨rfl, rfl⟩
  ·rw [show decide (0 <= at_ /\ at_ < (n : Int) - 111) = false by simp; omega]
   go_enter Tryz.func165, Tryz.ntmps165
   go_wp2_with (go_at_call 55; refine HS.out.mono ?_; rintro e w1 ⟨rfl, rfl⟩)
   go_ret
   exact ⟨congrArg (fun b => Ending.returned (Value.bool b)) (decide_eq_false (by omega)), rfl⟩
 ·rw [show decide (0 <= at_ /\ at_ < (n : Int) - 111) = false by simp; omega]
  go_enter Tryz.func165, Tryz.ntmps165
  go_wp2_with fail
  go_ret
  exact ⟨rfl, rfl⟩
theorem Xb (h : aG w gw 162 (eS gd seq up k)) :
  Calls Tryz.prog 99 #[.pointer (some ⟨gw, 0, none⟩)] w fun e w' => e = .returned (.bool up) /\ w = w' := by
 have c1 := h.cell 4
 simp [eS] at c1
 clear h
 go_enter Tryz.func99, Tryz.ntmps99
 go_wp2_with fail
 go_ret
 exact ⟨rfl, rfl⟩
theorem Ny (at_ : Int) (h : aG w gw 162 (eS gd seq true k)) (hd : bE w O gd S) (hn : S.now.length = n) (h1 : 111 <= n) (h2 : n <= 2000) (hz : ∀ x ∈ S.now, x.size <= 100000) :
  Calls Tryz.prog 112 #[.pointer (some ⟨gw, 0, none⟩), .int .i64 at_] w fun e w' => e = .returned (if 0 <= at_ /\ at_ < (n : Int) - 111 then .tuple #[.string (S.read (111 + at_)), .int .i64 (S.errR (111 + at_))] else .tuple #[.string ⟨#[]⟩, .int .i64 15]) /\ Below w.heap.size w w' := by
 have c0 := h.cell 0
 have c4 := h.cell 4
 simp [eS] at c0 c4
 have HH := Lib.hid (Fo at_ h hd hn h1 h2)
 by_cases hr : 0 <= at_ /\ at_ < (n : Int) - 111
 ·rw [if_pos hr]
  have HR := Lib.hid (tN (111 + at_) hd hz)
  obtain ⟨X, hX⟩ : ∃ X, X = S.read (111 + at_) := ⟨_, rfl⟩
  obtain ⟨E, hE⟩ : ∃ E, E = S.errR (111 + at_) := ⟨_, rfl⟩
  rw [<- hX, <- hE] at HR ⊢
  rw [decide_eq_true hr] at HH
  obtain ⟨r0, r1⟩ := hr
  have h2 : (n : Int) <= 2000 := by omega
  clear h hd hn h1 hz hX hE
  go_enter Tryz.func112, Tryz.ntmps112
  go_wp2_with (go_at_call 165; refine HH.out.mono ?_; rintro e w1 ⟨rfl, rfl⟩)
  refine HR.out.mono ?_
  rintro e w1 ⟨rfl, hb⟩
  go_wp2_with fail
  go_ret2
  exact ⟨rfl, hb⟩
 ·rw [if_neg hr]
  rw [decide_eq_false hr] at HH
  clear h hd hn h1 h2 hz hr
  go_enter Tryz.func112, Tryz.ntmps112
  go_wp2_with (go_at_call 165; refine HH.out.mono ?_; rintro e w1 ⟨rfl, rfl⟩)
  go_ret2
  exact ⟨rfl, Below.refl _ _⟩
end
def Fp (h : HD) (X : ByteArray) (k : Int) : Prop := if h.validB then X = bs h.text /\ k = 0 else X = ⟨#[]⟩ /\ k = 1
theorem uT (h : HD) (A : Option Addr) (c : Nat) (w : World) (ha : h.At w A c) :
  Calls Tryz.prog 146 #[h.val A c] w fun e w' => ∃ b X k, e = .returned (.tuple #[.slice (some ⟨b, 0, none⟩) 1 1, .int .i64 k]) /\ Fp h X k /\ aG w' b 74 #[.int .i64 0, .string X] /\ w.heap.size <= b /\ Below w.heap.size w w' := by
 obtain ⟨X, k, hXk, hcase⟩ : ∃ X k, (if h.validB then Value.tuple #[.string (bs h.text), .int .i64 0] else .tuple #[.string ⟨#[]⟩, .int .i64 1]) = .tuple #[.string X, .int .i64 k] /\ Fp h X k := by
  unfold Fp
  cases h.validB with
  | true => exact ⟨_, _, rfl, rfl, rfl⟩
  | false => exact ⟨_, _, rfl, rfl, rfl⟩
 have HL : Hid (∀ W, Below w.heap.size w W -> Calls Tryz.prog 177 #[h.val A c] W fun e w' => e = .returned (.tuple #[.string X, .int .i64 k]) /\ Below W.heap.size W w') := Lib.hid (fun W hW => by
  have := yC h A c W (ha.below hW)
  rw [hXk] at this
  exact this)
 have HC := Lib.hid hcase
 obtain ⟨seq, full, ts⟩ := h
 unfold HD.val at HL ⊢
 simp only at HL ⊢
 clear ha hXk hcase
 obtain ⟨n, hn⟩ : ∃ n, n = ts.length := ⟨_, rfl⟩
 rw [<- hn] at HL ⊢
 clear hn
 go_enter Tryz.func146, Tryz.ntmps146
 go_wp2_with fail
 refine (HL.out _ ((Below.refl _ _).alloc (Nat.le_refl _) _)).mono ?_
 rintro e w1 ⟨rfl, hb1⟩
 have HB : Hid (Below w.heap.size w w1) := Lib.hid (((Below.refl _ _).alloc (Nat.le_refl _) _).trans (hb1.mono (by simp)))
 clear hb1
 go_wp2_with fail
 go_ret2
 exact ⟨w1.heap.size, X, k, rfl, HC.out, aG.new _ _ _, HB.out.size, HB.out.alloc HB.out.size _⟩
set_option maxRecDepth 100000
set_option maxHeartbeats 1000000
structure WI where
 A : Option Addr
 c : Nat
 l : List eA
def WI.val (x : WI) : Value := .slice x.A x.l.length x.c
theorem tM.keep {w w' : World} {O O' : List Nat} {A : Option Addr} {l : List (Int × ByteArray)} (h : tM w O A l) (hk : aR O w w') (hO : ∀ b ∈ O', b ∈ O \/ w.heap.size <= b) : tM w' O' A l := fun hp => by
 obtain ⟨b, off, e, hb, hn, hc⟩ := h hp
 have hbk := hk.block b hb hn
 refine ⟨b, off, e, Nat.lt_of_lt_of_le hb hk.size, fun hm => ?_, fun j x hx => ?_⟩
 ·rcases hO b hm with h1 | h1
  ·exact hn h1
  ·omega
 ·obtain ⟨c1, c2⟩ := hc j x hx
  exact ⟨(World.cell?_of_block (a := ⟨b, off + j * 2, none⟩) hbk).trans c1, (World.cell?_of_block (a := ⟨b, off + j * 2 + 1, none⟩) hbk).trans c2⟩
theorem tM.below {w w' : World} {O : List Nat} {A : Option Addr} {l : List (Int × ByteArray)} (h : tM w O A l) (hb : Below w.heap.size w w') : tM w' O A l := h.keep (aR.of_below hb) (fun _ hb => .inl hb)
theorem Tf {w : World} {gw gd bg m c : Nat} {seq k : Int} {up : Bool} {O : List Nat} {S : DS} (G : List WI) (h : aG w gw 162 (eS gd seq up k)) (hd : bE w O gd S) (hok : S.Ok) (hgw : gw ∉ O)
  (hm : G.length = m) (hG : ∀ (j : Nat) (x : WI), G[j]? = some x -> w.cell? ⟨bg, j, none⟩ = some x.val /\ tM w O x.A x.l /\ x.l.length <= 2000) (hbg : bg < w.heap.size) (hbgO : bg ∉ O) (hm4 : m <= 10)
  (hlb : S.left <= 9223372036854775807) (hwb : S.writes < 900000000000) (hdb : S.dirty.length < 900000000000) :
  Calls Tryz.prog 147 #[.pointer (some ⟨gw, 0, none⟩), .slice (some ⟨bg, 0, none⟩) m c] w fun e w' => e = .returned (.int .i64 (lD S (G.map WI.l))) /\ dC O gd (jV S (G.map WI.l)) w w' := by
 obtain ⟨E, hE⟩ : ∃ E, E = lD S (G.map WI.l) := ⟨_, rfl⟩
 rw [<- hE]
 have HE := Lib.hid hE
 have HB := Lib.hid h
 have HD := Lib.hid hd
 have HM := Lib.hid hm
 have HG := Lib.hid hG
 have HOK := Lib.hid hok
 have HGW := Lib.hid hgw
 have HBG := Lib.hid (And.intro hbg hbgO)
 have HBND := Lib.hid (And.intro hlb (And.intro hwb hdb))
 have hm4' : (m : Int) <= 10 := by omega
 clear hE h hd hm hG hok hgw hbg hbgO hlb hwb hdb
 go_enter Tryz.func147, Tryz.ntmps147
 go_wp2_with fail
 go_loopw [11] (fun i wr => ∃ (j : Nat) (T : DS), j <= m /\ i = .int .i64 j /\ dC O gd T w wr /\ T.Ok /\ T.left <= S.left /\ T.writes <= S.writes + 2000 * j /\ T.dirty.length <= S.dirty.length + 2000 * j /\ lD S (G.map WI.l) = lD T ((G.drop j).map WI.l) /\ jV S (G.map WI.l) = jV T ((G.drop j).map WI.l)) (fun i _ => m - (intOf i).toNat)
 case atStart => exact ⟨0, S, Nat.zero_le _, rfl, dC.refl HD.out, HOK.out, Nat.le_refl _, by omega, by omega, rfl, rfl⟩
 case round =>
  obtain ⟨j, T, hj, rfl, hT, hTok, hTl, hTw, hTd, he1, he2⟩ := hrel
  have HT := Lib.hid hT
  have HTO := Lib.hid hTok
  have HTB := Lib.hid (And.intro hTl (And.intro hTw hTd))
  have HE1 := Lib.hid he1
  have HE2 := Lib.hid he2
  clear hT hTok hTl hTw hTd he1 he2
  by_cases hlt : j < m
  ·have hjl : j < G.length := by rw [HM.out]; exact hlt
   obtain ⟨x, hx⟩ : ∃ x, x = G[j] := ⟨_, rfl⟩
   have hxj : G[j]? = some x := by rw [hx]; exact List.getElem?_eq_getElem hjl
   have hdrop : G.drop j = x :: G.drop (j + 1) := by rw [List.drop_eq_getElem_cons hjl, hx]
   obtain ⟨d0, hW, hxl⟩ := HG.out j x hxj
   obtain ⟨O', hD, hO', hK⟩ := HT.out
   have d0' : wr.cell? ⟨bg, j, none⟩ = some x.val := (World.cell?_of_block (a := ⟨bg, j, none⟩) (hK.block bg HBG.out.1 HBG.out.2)).trans d0
   obtain ⟨xA, xc, xl⟩ := x
   obtain ⟨xn, hxn⟩ : ∃ xn, xn = xl.length := ⟨_, rfl⟩
   unfold WI.val at d0'
   simp only at d0' hW hxl
   rw [<- hxn] at d0' hxl
   have hjI : (j : Int) < (m : Int) := by omega
   have hwal : aG wr gw 162 (eS gd seq up k) := (hK.block gw HB.out.lt HGW.out).trans HB.out
   have c0 := hwal.cell 0
   simp [eS] at c0
   have HBNDT : Hid (T.left <= 9223372036854775807 /\ T.writes < 990000000000 /\ T.dirty.length < 990000000000) := Lib.hid (by
    obtain ⟨b1, b2, b3⟩ := HBND.out
    obtain ⟨t1, t2, t3⟩ := HTB.out
    have : 2000 * j <= 20000 := by omega
    exact ⟨by omega, by omega, by omega⟩)
   have HW1 : Hid (Calls Tryz.prog 92 #[.pointer (some ⟨gd, 0, none⟩), .slice xA xn xc] wr fun e w' => e = .returned (.int .i64 (T.errW xl)) /\ dC O gd (T.write xl) w w') := Lib.hid (by
    obtain ⟨b1, b2, b3⟩ := HBNDT.out
    refine (Ix xA xn xc xl hD HTO.out hxn.symm (hW.keep hK hO') b1 (by omega) (by omega)).mono ?_
    rintro e w3 ⟨rfl, hT3⟩
    exact ⟨rfl, nL hO' hK hT3⟩)
   have HQ : Hid ((T.write xl).Ok /\ (T.write xl).left <= T.left /\ (T.write xl).writes <= T.writes + xn /\ (T.write xl).dirty.length <= T.dirty.length + xn) := Lib.hid ⟨HTO.out.write xl, DS.write_left _ _, by rw [hxn]; exact DS.write_writes _ _, by rw [hxn]; exact DS.write_dirty _ _⟩
   have HX2 : Hid (xn <= 2000) := Lib.hid hxl
   clear hx hxj hjl d0 hW hD hO' hK hwal hxl hxn
   by_cases he : T.errW xl = 0
   ·rw [he] at HW1
    have HF1 : Hid (∀ wz, dC O gd (T.write xl) w wz -> Calls Tryz.prog 93 #[.pointer (some ⟨gd, 0, none⟩)] wz fun e w' => e = .returned (.int .i64 (T.write xl).errF) /\ dC O gd (T.write xl).flush w w') := Lib.hid (fun wz hz => by
     obtain ⟨O2, hD2, hO2, hK2⟩ := hz
     refine (Jf hD2 HQ.out.1 (by have := HQ.out.2.1; have := HBNDT.out.1; omega)).mono ?_
     rintro e w3 ⟨rfl, hT3⟩
     exact ⟨rfl, nL hO2 hK2 hT3⟩)
    have HQA : Hid ((T.write xl).errF = 0 -> lD S (G.map WI.l) = lD (T.write xl).flush ((G.drop (j + 1)).map WI.l) /\ jV S (G.map WI.l) = jV (T.write xl).flush ((G.drop (j + 1)).map WI.l)) := Lib.hid (fun hf => ⟨HE1.out.trans (by rw [hdrop]; simp only [List.map_cons]; rw [lD, if_pos he, if_pos hf]), HE2.out.trans (by rw [hdrop]; simp only [List.map_cons]; rw [jV, if_pos he, if_pos hf])⟩)
    have HQB : Hid (¬ (T.write xl).errF = 0 -> lD S (G.map WI.l) = (T.write xl).errF /\ jV S (G.map WI.l) = (T.write xl).flush) := Lib.hid (fun hf => ⟨HE1.out.trans (by rw [hdrop]; simp only [List.map_cons]; rw [lD, if_pos he, if_neg hf]), HE2.out.trans (by rw [hdrop]; simp only [List.map_cons]; rw [jV, if_pos he, if_neg hf])⟩)
    clear hdrop he
    go_wp2_with fail
    refine HW1.out.mono ?_
    rintro e wz ⟨rfl, hTz⟩
    have HTZ := Lib.hid hTz
    obtain ⟨O2, hD2, hO2, hK2⟩ := hTz
    have hwal : aG wz gw 162 (eS gd seq up k) := (hK2.block gw HB.out.lt HGW.out).trans HB.out
    have c0 := hwal.cell 0
    simp [eS] at c0
    clear hD2 hO2 hK2 hwal
    by_cases hf : (T.write xl).errF = 0
    ·have HQ2 := Lib.hid (HQA.out hf)
     rw [hf] at HF1
     have HFLN : Hid ((T.write xl).flush.left <= S.left /\ (T.write xl).flush.writes <= S.writes + 2000 * (j + 1) /\ (T.write xl).flush.dirty.length <= S.dirty.length + 2000 * (j + 1)) := Lib.hid (by
      obtain ⟨a1, a2, a3, a4⟩ := HQ.out
      obtain ⟨t1, t2, t3⟩ := HTB.out
      have f1 := DS.flush_left (T.write xl)
      have f2 := DS.flush_writes (T.write xl)
      have f3 := DS.flush_dirty (T.write xl)
      have := HX2.out
      exact ⟨by omega, by omega, by omega⟩)
     have HFO : Hid ((T.write xl).flush.Ok) := Lib.hid HQ.out.1.flush
     clear hf
     go_wp2_with fail
     refine (HF1.out _ HTZ.out).mono ?_
     rintro e wf ⟨rfl, hTf⟩
     have HTF := Lib.hid hTf
     clear hTf
     go_wp2_with fail
     go_roundw
     case rel => exact ⟨j + 1, (T.write xl).flush, by omega, by go_num, HTF.out, HFO.out, HFLN.out.1, HFLN.out.2.1, HFLN.out.2.2, HQ2.out.1, HQ2.out.2⟩
     case measure => simp [intOf]; omega
    ·have HQ2 := Lib.hid (HQB.out hf)
     obtain ⟨v, hv⟩ : ∃ v, v = (T.write xl).errF := ⟨_, rfl⟩
     rw [<- hv] at HF1 hf HQ2
     have hb : (v != 0) = true := bne_iff_ne.2 hf
     clear hv
     go_wp2_with fail
     refine (HF1.out _ HTZ.out).mono ?_
     rintro e wf ⟨rfl, hTf⟩
     have HTF := Lib.hid hTf
     clear hTf
     go_wp2_with fail
     go_ret
     rw [HQ2.out.2, HE.out, HQ2.out.1]
     exact ⟨rfl, HTF.out⟩
   ·have q1 : lD T ((G.drop j).map WI.l) = T.errW xl := by rw [hdrop]; simp only [List.map_cons]; rw [lD, if_neg he]
    have q2 : jV T ((G.drop j).map WI.l) = T.write xl := by rw [hdrop]; simp only [List.map_cons]; rw [jV, if_neg he]
    have HQ2 := Lib.hid (And.intro (HE1.out.trans q1) (HE2.out.trans q2))
    obtain ⟨v, hv⟩ : ∃ v, v = T.errW xl := ⟨_, rfl⟩
    rw [<- hv] at HW1 he HQ2
    have hb : (v != 0) = true := bne_iff_ne.2 he
    clear q1 q2 hdrop hv
    go_wp2_with fail
    refine HW1.out.mono ?_
    rintro e wz ⟨rfl, hTz⟩
    have HTZ := Lib.hid hTz
    clear hTz
    go_wp2_with fail
    go_ret
    rw [HQ2.out.2, HE.out, HQ2.out.1]
    exact ⟨rfl, HTZ.out⟩
  ·obtain rfl : j = m := by omega
   have hd : G.drop j = [] := List.drop_of_length_le (by rw [HM.out]; exact Nat.le_refl _)
   have q1 : E = 0 := by rw [HE.out, HE1.out, hd]; rfl
   have HQ : Hid (jV S (G.map WI.l) = T) := Lib.hid (by rw [HE2.out, hd]; rfl)
   clear hd
   go_wp2_with fail
   go_ret
   rw [HQ.out]
   exact ⟨by rw [q1]; rfl, HT.out⟩
theorem Fn {w : World} {gw gd n m c : Nat} {seq k : Int} {O : List Nat} {S : DS} (A : Option Addr) (l : List eA) (h : aG w gw 162 (eS gd seq true k)) (hd : bE w O gd S) (hn : S.now.length = n) (h1 : 111 <= n) (h2 : n <= 2000)
  (hm : l.length = m) (hl : tM w O A l) (hm2 : m <= 100000) :
  Calls Tryz.prog 144 #[.pointer (some ⟨gw, 0, none⟩), .slice A m c] w fun e w' => e = .returned (.int .i64 (lE ((n : Int) - 111) l)) /\ Below w.heap.size w w' := by
 obtain ⟨E, hE⟩ : ∃ E, E = lE ((n : Int) - 111) l := ⟨_, rfl⟩
 rw [<- hE]
 have HE := Lib.hid hE
 have HM := Lib.hid hm
 have HL := Lib.hid hl
 have HW := Lib.hid h
 have HHAS : Hid (∀ wx, Below w.heap.size w wx -> ∀ at_, Calls Tryz.prog 165 #[.pointer (some ⟨gw, 0, none⟩), .int .i64 at_] wx fun e w' => e = .returned (.bool (decide (0 <= at_ /\ at_ < (n : Int) - 111))) /\ wx = w') := Lib.hid (fun wx hx at_ => Fo at_ (h.below hx h.lt) (hd.below hx) hn h1 h2)
 have c4 := h.cell 4
 simp [eS] at c4
 have hm2' : (m : Int) <= 100000 := by omega
 clear hE hm hl h hd hn h1 h2
 go_enter Tryz.func144, Tryz.ntmps144
 go_wp2_with fail
 clear c4
 go_loopw [18] (fun i wr => ∃ (j : Nat), j <= m /\ i = .int .i64 j /\ Below w.heap.size w wr /\ lE ((n : Int) - 111) l = lE ((n : Int) - 111) (l.drop j)) (fun i _ => m - (intOf i).toNat)
 case atStart => exact ⟨0, Nat.zero_le _, rfl, Below.refl _ _, rfl⟩
 case round =>
  obtain ⟨j, hj, rfl, hb, he⟩ := hrel
  have HB := Lib.hid hb
  have HE1 := Lib.hid he
  clear hb he
  by_cases hlt : j < m
  ·have hjl : j < l.length := by rw [HM.out]; exact hlt
   obtain ⟨b, off, rfl, hbw, -, hc⟩ := HL.out (by omega)
   obtain ⟨x, hx⟩ : ∃ x, x = l[j] := ⟨_, rfl⟩
   have hxj : l[j]? = some x := by rw [hx]; exact List.getElem?_eq_getElem hjl
   have hdrop : l.drop j = x :: l.drop (j + 1) := by rw [List.drop_eq_getElem_cons hjl, hx]
   obtain ⟨d0, d1⟩ := hc j x hxj
   obtain ⟨xa, xs⟩ := x
   simp only at d0 d1
   have d0' : wr.cell? ⟨b, off + j * 2, none⟩ = some (.int .i64 xa) := (HB.out.cell (p := ⟨b, off + j * 2, none⟩) hbw).trans d0
   have d1' : wr.cell? ⟨b, off + j * 2 + 1, none⟩ = some (.string xs) := (HB.out.cell (p := ⟨b, off + j * 2 + 1, none⟩) hbw).trans d1
   have hjI : (j : Int) < (m : Int) := by omega
   have HBX : Hid (Below w.heap.size w (wr.alloc (.cells #[.int .i64 xa, .string xs] 74))) := Lib.hid (HB.out.alloc HB.out.size _)
   have HH : Hid (Calls Tryz.prog 165 #[.pointer (some ⟨gw, 0, none⟩), .int .i64 xa] (wr.alloc (.cells #[.int .i64 xa, .string xs] 74)) fun e w' => e = .returned (.bool (decide (0 <= xa /\ xa < (n : Int) - 111))) /\ (wr.alloc (.cells #[.int .i64 xa, .string xs] 74)) = w') := Lib.hid (HHAS.out _ HBX.out xa)
   clear hx hxj hjl hc d0 d1 hbw
   by_cases hr : 0 <= xa /\ xa < (n : Int) - 111
   ·rw [decide_eq_true hr] at HH
    by_cases hs : xs.size = 256
    ·have HQ : Hid (lE ((n : Int) - 111) l = lE ((n : Int) - 111) (l.drop (j + 1))) := Lib.hid (by rw [HE1.out, hdrop, lE, if_pos hr, if_pos hs])
     have hsI : (xs.size : Int) = 256 := by omega
     clear hdrop hr hs
     go_wp2_with (go_at_call 165; refine HH.out.mono ?_; rintro e w1 ⟨rfl, rfl⟩)
     go_roundw
     case rel => exact ⟨j + 1, by omega, by go_num, HBX.out, HQ.out⟩
     case measure => simp [intOf]; omega
    ·have q : E = 1 := by rw [HE.out, HE1.out, hdrop, lE, if_pos hr, if_neg hs]
     have hsI : ((xs.size : Int) != 256) = true := bne_iff_ne.2 (by omega)
     have hsJ : ¬ (xs.size : Int) = 256 := by omega
     have HQ := Lib.hid q
     clear hdrop hr hs q
     go_wp2_with (go_at_call 165; refine HH.out.mono ?_; rintro e w1 ⟨rfl, rfl⟩)
     go_ret
     exact ⟨by rw [HQ.out]; rfl, HBX.out⟩
   ·have q : E = 15 := by rw [HE.out, HE1.out, hdrop, lE, if_neg hr]
    have HQ := Lib.hid q
    rw [decide_eq_false hr] at HH
    clear hdrop hr q
    go_wp2_with (go_at_call 165; refine HH.out.mono ?_; rintro e w1 ⟨rfl, rfl⟩)
    go_ret
    exact ⟨by rw [HQ.out]; rfl, HBX.out⟩
  ·obtain rfl : j = m := by omega
   have q : E = 0 := by rw [HE.out, HE1.out, List.drop_of_length_le (by rw [HM.out]; exact Nat.le_refl _)]; rfl
   have HQ := Lib.hid q
   clear q
   go_wp2_with fail
   go_ret
   exact ⟨by rw [HQ.out]; rfl, HB.out⟩
open Go.RowKit Go.WideMaps Go.Maps
set_option maxRecDepth 100000
theorem qE : Keyed Tryz.prog 3 := int_keyed Tryz.underlying3
theorem BC {n : Int} (h1 : -9223372036854775808 <= n) (h2 : n <= 9223372036854775807) : (Lit.int .i64 n).wf = true := by
 have e := Go.wf_wrap .i64 n
 have hw : IntKind.i64.wrap n = n := by rw [IntKind.wrap_i64]; omega
 rwa [hw] at e
theorem Ls {t : Int} (h1 : -9223372036854775808 <= t) (h2 : t <= 9223372036854775807) : keyOf Tryz.prog 3 (.int .i64 t) = some (.int .i64 t) := keyOf_int_mk Tryz.underlying3 (BC h1 h2)
theorem Zk (w : World) : (zeroValue 3).run Tryz.prog w = .ok (.int .i64 0) w := by kernel_rfl
def lC (w : World) (b n : Nat) (M : Int -> Int) : Prop :=
 ∃ D : DataW Unit, w.ownsMap Tryz.prog 3 (plainElem Tryz.prog 3) b n D /\ ∀ t : Int, -9223372036854775808 <= t -> t <= 9223372036854775807 -> D.atKey (.int .i64 t) (.lit (.int .i64 0)) = .lit (.int .i64 (M t))
theorem lC.lt {w : World} {b n : Nat} {M : Int -> Int} (h : lC w b n M) : b < w.heap.size := by
 obtain ⟨D, h, _⟩ := h
 exact h.lt
theorem lC.kept {w w' : World} {b n : Nat} {M : Int -> Int} (h : lC w b n M) (hb : w'.heap[b]? = w.heap[b]?) : lC w' b n M := by
 obtain ⟨D, ⟨es, clock, h1, h2⟩, h3⟩ := h
 exact ⟨D, ⟨es, clock, hb.trans h1, h2⟩, h3⟩
theorem lC.below {w w' : World} {b n : Nat} {M : Int -> Int} (h : lC w b n M) (hb : Below w.heap.size w w') : lC w' b n M := h.kept (hb.block b h.lt)
theorem lC.made (w : World) : lC (w.alloc (.map #[] 0)) w.heap.size 0 (fun _ => 0) :=
 ⟨.map [], World.ownsMap_made _ _ _ _, fun _ _ _ => rfl⟩
theorem lC.update {w : World} {b n : Nat} {M : Int -> Int} (h : lC w b n M) (hn : n < 1000000) {k v : Int} (hk1 : -9223372036854775808 <= k) (hk2 : k <= 9223372036854775807) (hv1 : -9223372036854775808 <= v) (hv2 : v <= 9223372036854775807) :
  ∃ w', (Instr.mapUpdate 231 (.map (some b)) (.int .i64 k) (.int .i64 v)).run Tryz.prog w = .ok () w' /\ lC w' b (n + 1) (fun t => if t = k then v else M t) /\ w.grownBy w' (some b) := by
 obtain ⟨D, h1, h2⟩ := h
 have hkey := Ls hk1 hk2
 obtain ⟨w', hr, h3, h4⟩ := h1.update qE Tryz.underlying231 (by unfold maxLen; omega) hkey (plainElem_int Tryz.underlying3 (BC hv1 hv2))
 refine ⟨w', hr, ⟨_, h3, fun i hi1 hi2 => ?_⟩, h4⟩
 by_cases hik : i = k
 ·subst hik
  simp only [if_true]
  exact atKey_put_same h1.isMap (show WideAt.IsKeyLit (Lit.int .i64 i) from trivial) _ _
 ·simp only [if_neg hik]
  have hne : (Lit.int .i64 i) ≠ .int .i64 k := fun e => by
   injection e with _ e
   exact hik e
  rw [atKey_put_other hne]
  exact h2 i hi1 hi2
theorem lC.look {w : World} {b n : Nat} {M : Int -> Int} (h : lC w b n M) {k : Int} (hk1 : -9223372036854775808 <= k) (hk2 : k <= 9223372036854775807) :
  (Instr.lookup 231 (.map (some b)) (.int .i64 k) false).run Tryz.prog w = .ok (.int .i64 (M k)) w := by
 obtain ⟨D, h1, h2⟩ := h
 obtain ⟨c, hr, hc, _⟩ := h1.lookup_int qE Tryz.underlying231 Tryz.underlying3 (Zk w) (Ls hk1 hk2)
 rw [h2 k hk1 hk2] at hc
 injection hc with hc
 injection hc with _ hc
 rw [hc]
 exact hr
def uS (l : List eA) : Nat × (Int -> Int) := l.foldl (fun s x => (s.1 + 1, fun t => if t = x.1 then (s.1 : Int) else s.2 t)) (0, fun _ => 0)
def oP (l : List eA) : Int -> Int := (uS l).2
theorem xZ (l : List eA) (x : eA) : uS (l ++ [x]) = ((uS l).1 + 1, fun t => if t = x.1 then ((uS l).1 : Int) else (uS l).2 t) := by unfold uS; rw [List.foldl_append]; rfl
theorem It (l : List eA) (x : eA) (t : Int) : gR (l ++ [x]) t = if x.1 = t then x.2 else gR l t := by
 unfold gR
 rw [List.foldl_append]
 simp only [List.foldl_cons, List.foldl_nil]
 split <;> rfl
theorem kQ {l : List eA} {j : Nat} {x : eA} (h : l[j]? = some x) : l.take (j + 1) = l.take j ++ [x] := by rw [List.take_add_one, h]; rfl
theorem Nv (l : List eA) : ∀ j, j <= l.length -> (uS (l.take j)).1 = j := by
 intro j
 induction j with
 | zero => intro _; rfl
 | succ j ih =>
   intro hj
   have hx : l[j]? = some (l[j]'(by omega)) := List.getElem?_eq_getElem (by omega)
   rw [kQ hx, xZ]
   show (uS (l.take j)).1 + 1 = _
   rw [ih (by omega)]
theorem yA {l : List eA} {j : Nat} {x : eA} (h : l[j]? = some x) : oP (l.take (j + 1)) = fun t => if t = x.1 then (j : Int) else oP (l.take j) t := by
 have hj : j < l.length := by
  rcases Nat.lt_or_ge j l.length with h' | h'
  ·exact h'
  ·rw [List.getElem?_eq_none h'] at h; cases h
 unfold oP
 rw [kQ h, xZ, Nv l j (by omega)]
theorem Iu (l : List eA) : ∀ j, j <= l.length -> ∀ t, (∃ x ∈ l.take j, x.1 = t) -> ∃ (i : Nat) (x : eA), oP (l.take j) t = (i : Int) /\ i < j /\ l[i]? = some x /\ x.1 = t /\ x.2 = gR (l.take j) t := by
 intro j
 induction j with
 | zero => intro _ t ⟨x, hx, _⟩; simp at hx
 | succ j ih =>
   intro hj t ⟨x, hx, e⟩
   have hy : l[j]? = some (l[j]'(by omega)) := List.getElem?_eq_getElem (by omega)
   rw [yA hy, kQ hy]
   simp only [It]
   by_cases ht : (l[j]'(by omega)).1 = t
   ·rw [if_pos ht.symm, if_pos ht]
    exact ⟨j, _, rfl, by omega, hy, ht, rfl⟩
   ·rw [if_neg (fun e => ht e.symm), if_neg ht]
    rw [kQ hy, List.mem_append, List.mem_singleton] at hx
    rcases hx with hx | hx
    ·obtain ⟨i, z, h1, h2, h3, h4, h5⟩ := ih (by omega) t ⟨x, hx, e⟩
     exact ⟨i, z, h1, by omega, h3, h4, h5⟩
    ·exact absurd (hx ▸ e) ht
theorem Bk (l : List eA) {t : Int} (h : t ∈ l.map Prod.fst) : ∃ (i : Nat) (x : eA), oP l t = (i : Int) /\ i < l.length /\ l[i]? = some x /\ x.1 = t /\ x.2 = gR l t := by
 obtain ⟨x, hx, e⟩ := List.mem_map.1 h
 have := Iu l l.length (Nat.le_refl _) t
 rw [List.take_length] at this
 exact this ⟨x, hx, e⟩
def sD (l : List eA) (j : Nat) : List Value := ((l.take j).map fun x => Value.int .i64 x.1) ++ List.replicate (l.length - j) (.int .i64 0)
theorem Nw {l : List eA} {j : Nat} {x : eA} (h : l[j]? = some x) : (sD l j).toArray.setIfInBounds j (.int .i64 x.1) = (sD l (j + 1)).toArray := by
 have hj : j < l.length := by
  rcases Nat.lt_or_ge j l.length with h' | h'
  ·exact h'
  ·rw [List.getElem?_eq_none h'] at h; cases h
 rw [List.setIfInBounds_toArray]
 congr 1
 unfold sD
 rw [kQ h, List.map_append]
 have hl : ((l.take j).map fun x => Value.int .i64 x.1).length = j := by simp; omega
 rw [List.set_append_right _ _ (by rw [hl]; exact Nat.le_refl _), hl, Nat.sub_self, show l.length - j = (l.length - (j + 1)) + 1 by omega, List.replicate_succ]
 simp
theorem Nx {l : List eA} {w : World} {g : Nat} (h : aG w g 3 (sD l l.length).toArray) : dZ w w.heap.size (some ⟨g, 0, none⟩) (l.map Prod.fst) := fun hp => by
 refine ⟨g, 0, rfl, h.lt, fun j x hx => ?_⟩
 rw [Nat.zero_add, h.cell]
 have e : sD l l.length = (l.map Prod.fst).map (Value.int .i64) := by unfold sD; simp
 rw [e, List.getElem?_toArray, List.getElem?_map, hx]
 rfl
end Go.Proofs.YtingkbeifohihaaGreatDoor
