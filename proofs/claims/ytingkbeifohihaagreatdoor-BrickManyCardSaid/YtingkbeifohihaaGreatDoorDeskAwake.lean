/-
  The statements' first call on a desk, whose answer the document fixes. No statement is proved here.
-/
import Derived.Test.YtingkbeifohihaaGreatDoorLinkWalk
import Derived.Test.YtingkbeifohihaaGreatDoorWalState
import Derived.Test.YtingkbeifohihaaGreatDoorOuts
import Derived.Test.YtingkbeifohihaaGreatDoorDiskMade
import Derived.Test.YtingkbeifohihaaGreatDoorHeadNextOwn
import Derived.Laws.BitsLemmas
import Derived.Test.YtingkbeifohihaaGreatDoorLinkSmall
import Derived.Test.YtingkbeifohihaaGreatDoorDeskSt
namespace Go.Proofs.YtingkbeifohihaaGreatDoor
open Go.RowKit
set_option maxRecDepth 100000
set_option maxHeartbeats 16000000
def pJ (l : List LK) : List UInt8 := l.flatMap fun x => x.data.data.toList
theorem Ql (l : List LK) (x : LK) : pJ (l ++ [x]) = pJ l ++ x.data.data.toList := by simp [pJ]
theorem Md {l : List LK} (h : ∀ x ∈ l, x.data.size <= 100000) : (pJ l).length <= l.length * 100000 := by
 induction l with
 | nil => simp [pJ]
 | cons x r ih =>
   have h1 := ih (fun y hy => h y (by simp [hy]))
   have h2 := h x (by simp)
   show (x.data.data.toList ++ pJ r).length <= _
   rw [List.length_append, <- Lib.size_eq, List.length_cons]
   omega
theorem rC {G : Int -> ByteArray × Int} (hG : ∀ t, (G t).1.size <= 100000) : ∀ (n : Nat) (l : List LK) (t : Int), (∀ x ∈ l, x.data.size <= 100000) -> ∀ x ∈ (dX G n l t).1, x.data.size <= 100000
 | 0, l, t, _ => by intro x hx; cases hx
 | n + 1, l, t, h => by
   have hd : (bJ (G t).1).1.data.size <= 100000 := Nat.le_trans (zK _) (hG t)
   have h2 : ∀ x ∈ l ++ [((bJ (G t).1).1.put t)], x.data.size <= 100000 := by
    intro x hx
    rcases List.mem_append.1 hx with hx | hx
    ·exact h x hx
    ·rw [List.mem_singleton.1 hx]; exact hd
   unfold dX
   split
   ·intro x hx; cases hx
   ·split
    ·intro x hx; cases hx
    ·split
     ·exact h2
     ·exact rC hG n _ _ h2
theorem zJ (K : KD) (t : Int) : (aI K t).1.length <= 40 := by
 have := tL (gI K) 40 [] t
 simpa [aI] using this
def fL (R : List LK × Int) : Int × Int × Int × ByteArray := if R.2 ≠ 0 then (0, 0, 0, .empty) else ((R.1.headD LK.zero).gen, (R.1.headD LK.zero).tag, (R.1.headD LK.zero).refs, oL R.1)
def AQ (q : Int × Int × Int × ByteArray) : Value := .agg #[.int .i64 q.1, .int .i64 q.2.1, .int .i64 q.2.2.1, .string q.2.2.2]
def AR (i : Nat) : Option Nat := [some 31, some 32, some 33, some 34, some 35, some 36, some 37, some 38, some 39, some 40, some 41, some 42, some 43, some 44, none, some 5].getD i none
theorem sX {s : Nat} (h : s < 5 \/ (5 < s /\ s < 31) \/ 44 < s) : ∀ i, i < 16 -> AR i ≠ some s := by
 intro i hi e
 have : ∀ i, i < 16 -> ∀ t, AR i = some t -> t = 5 \/ (31 <= t /\ t <= 44) := by
  intro i hi t
  rcases (show i = 0 \/ i = 1 \/ i = 2 \/ i = 3 \/ i = 4 \/ i = 5 \/ i = 6 \/ i = 7 \/ i = 8 \/ i = 9 \/ i = 10 \/ i = 11 \/ i = 12 \/ i = 13 \/ i = 14 \/ i = 15 by omega) with rfl | rfl | rfl | rfl | rfl | rfl | rfl | rfl | rfl | rfl | rfl | rfl | rfl | rfl | rfl | rfl <;> intro e <;> simp [AR] at e <;> omega
 have := this i hi s e
 omega
def BD (b n c : Nat) (gen tag refs : Int) (J : ByteArray) : Nat -> Value
 | 0 => .slice (some ⟨b, 0, none⟩) n c
 | 1 => .pointer (some ⟨b, 0, none⟩)
 | 2 => .pointer (some ⟨b, 0, none⟩)
 | 3 => .int .i64 gen
 | 4 => .slice (some ⟨b, 0, none⟩) n c
 | 5 => .pointer (some ⟨b, 0, none⟩)
 | 6 => .pointer (some ⟨b, 1, none⟩)
 | 7 => .int .i64 tag
 | 8 => .slice (some ⟨b, 0, none⟩) n c
 | 9 => .pointer (some ⟨b, 0, none⟩)
 | 10 => .pointer (some ⟨b, 3, none⟩)
 | 11 => .int .i64 refs
 | 12 => .string J
 | 13 => .agg #[.int .i64 gen, .int .i64 tag, .int .i64 refs, .string J]
 | 14 => undef
 | _ => .int .i64 0
structure BE (w W : World) (b : Nat) (gb : Nat) (x : LK) (L : List UInt8) (J : ByteArray) (D : Nat -> Bool) (w' : World) : Prop where
 below : Below w.heap.size w w'
 cells : gT w' b 0 x
 bl : D 12 = false -> Lib.IsBuilderF 81 5 gb gb (Lib.byteCells L) w'
 gb : gb <= w'.heap.size
 ahead : D 14 = false -> aG w' w.heap.size 42 #[.int .i64 0, .int .i64 0, .int .i64 0, .string ⟨#[]⟩]
 behind : D 14 = true -> aG w' w.heap.size 42 #[.int .i64 x.gen, .int .i64 x.tag, .int .i64 x.refs, .string J]
theorem gT.kept {w w' : World} {g o : Nat} {x : LK} (h : gT w g o x) (hb : w'.heap[g]? = w.heap[g]?) : gT w' g o x :=
 ⟨(World.cell?_of_block (a := ⟨g, o, none⟩) hb).trans h.c0, (World.cell?_of_block (a := ⟨g, o + 1, none⟩) hb).trans h.c1, (World.cell?_of_block (a := ⟨g, o + 2, none⟩) hb).trans h.c2, (World.cell?_of_block (a := ⟨g, o + 3, none⟩) hb).trans h.c3, (World.cell?_of_block (a := ⟨g, o + 4, none⟩) hb).trans h.c4, (World.cell?_of_block (a := ⟨g, o + 5, none⟩) hb).trans h.c5, (World.cell?_of_block (a := ⟨g, o + 6, none⟩) hb).trans h.c6⟩
theorem Hc {w0 w : World} {g gd m N : Nat} {K : KD} {h : List ByteArray} {c0 : Nat} (s : Dm w0 w g gd m K) (r : bU N K h c0) {t0 : Int} (ht : nK t0) :
  Calls Tryz.prog 15 #[.pointer (some ⟨g, 0, none⟩), .int .i64 t0] w fun e w' => e = .returned (.tuple #[AQ (fL (aI K t0)), .int .i64 (aI K t0).2]) /\ Below w.heap.size w w' := by
 have HWK : Hid (∀ w1, Below w.heap.size w w1 -> Calls Tryz.prog 33 #[.pointer (some ⟨g, 0, none⟩), .int .i64 t0] w1 fun e w' => sY w1 (aI K t0) e w') := Lib.hid (fun w1 hb => tW (s.below hb) r ht)
 have hlen := zJ K t0
 have hdat : ∀ x ∈ (aI K t0).1, x.data.size <= 100000 := rC r.getR_size 40 [] t0 (fun x hx => by cases hx)
 have hpos : (aI K t0).2 = 0 -> 0 < (aI K t0).1.length := fun h => Nat.lt_of_le_of_lt (Nat.zero_le _) (sA (gI K) 40 [] t0 h)
 obtain ⟨R, hR⟩ : ∃ R, R = aI K t0 := ⟨_, rfl⟩
 rw [<- hR] at HWK hlen hdat hpos ⊢
 obtain ⟨l, er⟩ := R
 simp only at hlen hdat hpos
 obtain ⟨n, hn⟩ : ∃ n, n = l.length := ⟨_, rfl⟩
 have HN := Lib.hid hn
 have HD := Lib.hid hdat
 have hnI : (n : Int) <= 40 := by omega
 have HP := Lib.hid hpos
 clear hR s r ht hlen hdat hpos hn
 by_cases he : er = 0
 rotate_left
 ·have z0 : (er == 0) = false := by simpa using he
  have HE : Hid (AQ (fL (l, er)) = .agg #[.int .i64 0, .int .i64 0, .int .i64 0, .string ⟨#[]⟩]) := Lib.hid (by unfold fL; rw [if_pos he]; rfl)
  clear he
  go_enter Tryz.func15, Tryz.ntmps15
  go_wp2_with fail
  refine (HWK.out _ ((Below.refl _ _).alloc (Nat.le_refl _) _)).mono ?_
  rintro e w1 ⟨A, c, rfl, -, hb1⟩
  have HB1 : Hid (Below w.heap.size w w1) := Lib.hid (((Below.refl _ _).alloc (Nat.le_refl _) _).trans (hb1.mono (by simp)))
  have b1 : aG w1 w.heap.size 42 #[.int .i64 0, .int .i64 0, .int .i64 0, .string ⟨#[]⟩] := (aG.new w _ _).below hb1 (by simp)
  have k0 := b1.cell 0
  have k1 := b1.cell 1
  have k2 := b1.cell 2
  have k3 := b1.cell 3
  have f0 := b1.frozen 0
  have f1 := b1.frozen 1
  have f2 := b1.frozen 2
  have f3 := b1.frozen 3
  simp at k0 k1 k2 k3
  clear hb1
  go_wp2_with fail
  have b2 := (((b1.put 0 (.int .i64 0)).put 1 (.int .i64 0)).put 2 (.int .i64 0)).put 3 (.string ⟨#[]⟩)
  refine dN rfl rfl (aT (off := 0) b2 (fun j v h => by rw [Nat.zero_add]; exact h) (fun w => by kernel_rfl) (fun w => by kernel_rfl)) rfl rfl ?_
  exact ⟨by rw [HE.out]; rfl, (((HB1.out.setCell (Nat.le_refl _) _).setCell (Nat.le_refl _) _).setCell (Nat.le_refl _) _).setCell (Nat.le_refl _) _⟩
 subst he
 have hnp : 0 < n := by rw [HN.out]; exact HP.out rfl
 obtain ⟨x, hx⟩ : ∃ x, l[0]? = some x := ⟨_, List.getElem?_eq_getElem (by rw [<- HN.out]; exact hnp)⟩
 have HX := Lib.hid hx
 obtain ⟨J, hJ⟩ : ∃ J, J = oL l := ⟨_, rfl⟩
 have HJ := Lib.hid hJ
 have HE : Hid (AQ (fL (l, 0)) = .agg #[.int .i64 x.gen, .int .i64 x.tag, .int .i64 x.refs, .string J]) := Lib.hid (by
  unfold fL
  rw [if_neg (by simp)]
  have : l.headD LK.zero = x := by
   cases l with
   | nil => cases hx
   | cons y r => simpa using hx
  show AQ ((l.headD LK.zero).gen, (l.headD LK.zero).tag, (l.headD LK.zero).refs, oL l) = _
  rw [this, <- hJ]
  rfl)
 have hnpI : 0 < (n : Int) := by omega
 clear hx hJ
 go_enter Tryz.func15, Tryz.ntmps15
 go_wp2_with fail
 refine (HWK.out _ ((Below.refl _ _).alloc (Nat.le_refl _) _)).mono ?_
 rintro e w1 ⟨A, c, rfl, hrow, hb1⟩
 rw [show ((l, (0 : Int)).1.length) = n from HN.out.symm] at hrow ⊢
 obtain ⟨b, rfl, hbb, hblt, hcel⟩ := mA hrow hnp
 have HB1 : Hid (Below w.heap.size w w1) := Lib.hid (((Below.refl _ _).alloc (Nat.le_refl _) _).trans (hb1.mono (by simp)))
 have HK1 : Hid (aG w1 w.heap.size 42 #[.int .i64 0, .int .i64 0, .int .i64 0, .string ⟨#[]⟩]) := Lib.hid ((aG.new w _ _).below hb1 (by simp))
 have HC1 : Hid (∀ (j : Nat) (x : LK), l[j]? = some x -> gT w1 b (j * 7) x) := Lib.hid hcel
 have HBL : Hid (b < w1.heap.size /\ w.heap.size < b) := Lib.hid ⟨hblt, by simp at hbb; omega⟩
 clear hrow hbb hblt hcel hb1 HWK
 have hb0 : Lib.IsBuilderF 81 5 w1.heap.size w1.heap.size (Lib.byteCells []) (w1.alloc (.cells #[.pointer none, .slice none 0 0] 81)) := Lib.IsBuilderF.of (Lib.fresh_isBuilder _ _ w1)
 have HBU := Lib.hid hb0
 clear hb0
 go_wp2_with fail
 go_loopw [23] (fun i wr => ∃ j : Nat, j <= n /\ i = .int .i64 j /\ Lib.IsBuilderF 81 5 w1.heap.size w1.heap.size (Lib.byteCells (pJ (l.take j))) wr /\ Below w1.heap.size w1 wr) (fun i _ => n - (intOf i).toNat)
 case atStart => exact ⟨0, Nat.zero_le _, rfl, by simpa [pJ] using HBU.out, (Below.refl _ _).alloc (Nat.le_refl _) _⟩
 case round =>
  obtain ⟨j, hj, rfl, hbu, hbr⟩ := hrel
  have HBR := Lib.hid hbr
  have HB := Lib.hid hbu
  clear hbu hbr HBU
  by_cases hlt : j < n
  ·have hjl : j < l.length := by rw [<- HN.out]; exact hlt
   obtain ⟨y, hy⟩ : ∃ y, l[j]? = some y := ⟨_, List.getElem?_eq_getElem hjl⟩
   have hyc := (HC1.out j y hy).kept (HBR.out.block b HBL.out.1)
   obtain ⟨c0, c1, c2, c3, c4, c5, c6⟩ := hyc
   have hys : y.data.size <= 100000 := HD.out y (List.mem_of_getElem? hy)
   have HSN : Hid (pJ (l.take (j + 1)) = pJ (l.take j) ++ y.data.data.toList) := Lib.hid (by rw [List.take_add_one, hy]; exact Ql _ _)
   have HLE : Hid ((Lib.byteCells (pJ (l.take j))).length + y.data.size <= 140737488355328) := Lib.hid (by
    rw [Lib.byteCells_length]
    have := Md (l := l.take j) (fun z hz => HD.out z (List.mem_of_mem_take hz))
    have h2 : (l.take j).length <= 40 := by rw [List.length_take]; omega
    have h3 := Nat.mul_le_mul_right 100000 h2
    omega)
   obtain ⟨gen, tag, num, refs, next, B, at_⟩ := y
   simp only at c0 c1 c2 c3 c4 c5 c6
   have hjI : (j : Int) < (n : Int) := by omega
   have HLT := Lib.hid hlt
   have HBA := Lib.hid (HB.out.alloc (.cells #[.int .i64 gen, .int .i64 tag, .int .i64 num, .int .i64 refs, .int .i64 next, .string B, .int .i64 at_] 83))
   have HSA : Hid (w1.heap.size <= (wr.alloc (.cells #[.int .i64 gen, .int .i64 tag, .int .i64 num, .int .i64 refs, .int .i64 next, .string B, .int .i64 at_] 83)).heap.size) := Lib.hid (by have := HBR.out.size; simp; omega)
   simp only at HLE HSN
   clear hy hys hjl hlt
   go_wp2_with (go_at_call 34; refine (tG w1.heap.size w1.heap.size _ B _ HBA.out HLE.out HSA.out).mono ?_; rintro e w3 ⟨rfl, hB3, hb3, _⟩)
   go_roundw
   case rel => exact ⟨j + 1, HLT.out, by go_num, .inr (by rw [HSN.out]; simpa [Lib.byteCells, Lib.strCells] using hB3), (HBR.out.alloc HBR.out.size _).trans hb3⟩
   case measure => have := HLT.out; simp [intOf]; omega
  ·obtain rfl : j = n := by omega
   have htk : l.take j = l := List.take_of_length_le (by rw [<- HN.out]; exact Nat.le_refl _)
   have HBF : Hid (Lib.IsBuilderF 81 5 w1.heap.size w1.heap.size (Lib.byteCells (pJ l)) wr) := Lib.hid (by have := HB.out; rwa [htk] at this)
   have HJ0 : Hid (BE w w1 b w1.heap.size x (pJ l) J (fun _ => false) wr.drew) := Lib.hid ⟨(HB1.out.trans (HBR.out.mono HB1.out.size)).drew, by have := (HC1.out 0 x HX.out).kept (w' := wr.drew) (HBR.out.block b HBL.out.1); simpa using this, fun _ => HBF.out.elim (fun x => .inl x.drew) (fun x => .inr x.drew), HBR.out.drew.size, fun _ => HK1.out.below HBR.out.drew HK1.out.lt, fun h => by cases h⟩
   have HJE : Hid (J = ⟨(pJ l).toArray⟩) := Lib.hid HJ.out
   obtain ⟨gen, tag, num, refs, next, B, at_⟩ := x
   clear htk HB hj
   go_wp2_with fail
   refine vX 16 AR (BD b j c gen tag refs J) (BE w w1 b w1.heap.size ⟨gen, tag, num, refs, next, B, at_⟩ (pJ l) J) (by kernel_rfl) (by kernel_rfl) rfl (by kernel_rfl) (by kernel_rfl) HJ0.out ?hops ?hrest
   case hops =>
    intro o ho L y w' hc hF hLo hJ hw hv
    have HJJ := Lib.hid hJ
    obtain ⟨e0, e1, e2, e3, e4, e5, e6⟩ := hJ.cells
    simp only at e0 e1 e2 e3 e4 e5 e6
    clear hJ
    rcases (show o = 0 \/ o = 1 \/ o = 2 \/ o = 3 \/ o = 4 \/ o = 5 \/ o = 6 \/ o = 7 \/ o = 8 \/ o = 9 \/ o = 10 \/ o = 11 \/ o = 12 \/ o = 13 \/ o = 14 \/ o = 15 by omega) with rfl | rfl | rfl | rfl | rfl | rfl | rfl | rfl | rfl | rfl | rfl | rfl | rfl | rfl | rfl | rfl
    ·have t0 : y.tmps[6]?.getD undef = .slice (some ⟨b, 0, none⟩) j c := by rw [hF 6 (sX (by omega))]; rfl
     clear hw hv hF hc
     refine aA (v := .slice (some ⟨b, 0, none⟩) j c) (w' := w') rfl rfl ?_ ⟨rfl, ?_⟩
     ·go_simp
     ·have k := HJJ.out
      exact ⟨k.below, k.cells, fun h => k.bl (by simpa using h), k.gb, fun h => k.ahead (by simpa using h), fun h => k.behind (by simpa using h)⟩
    ·have t0 : y.tmps[31]?.getD undef = .slice (some ⟨b, 0, none⟩) j c := hv 0 (of_decide_eq_true (by kernel_rfl)) (by omega) 31 rfl
     clear hw hv hF hc
     refine aA (v := .pointer (some ⟨b, 0, none⟩)) (w' := w') rfl rfl ?_ ⟨rfl, ?_⟩
     ·go_simp
     ·have k := HJJ.out
      exact ⟨k.below, k.cells, fun h => k.bl (by simpa using h), k.gb, fun h => k.ahead (by simpa using h), fun h => k.behind (by simpa using h)⟩
    ·have t0 : y.tmps[32]?.getD undef = .pointer (some ⟨b, 0, none⟩) := hv 1 (of_decide_eq_true (by kernel_rfl)) (by omega) 32 rfl
     clear hw hv hF hc
     refine aA (v := .pointer (some ⟨b, 0, none⟩)) (w' := w') rfl rfl ?_ ⟨rfl, ?_⟩
     ·go_simp
     ·have k := HJJ.out
      exact ⟨k.below, k.cells, fun h => k.bl (by simpa using h), k.gb, fun h => k.ahead (by simpa using h), fun h => k.behind (by simpa using h)⟩
    ·have t0 : y.tmps[33]?.getD undef = .pointer (some ⟨b, 0, none⟩) := hv 2 (of_decide_eq_true (by kernel_rfl)) (by omega) 33 rfl
     clear hw hv hF hc
     refine aA (v := .int .i64 gen) (w' := w') rfl rfl ?_ ⟨rfl, ?_⟩
     ·go_simp
     ·have k := HJJ.out
      exact ⟨k.below, k.cells, fun h => k.bl (by simpa using h), k.gb, fun h => k.ahead (by simpa using h), fun h => k.behind (by simpa using h)⟩
    ·have t0 : y.tmps[6]?.getD undef = .slice (some ⟨b, 0, none⟩) j c := by rw [hF 6 (sX (by omega))]; rfl
     clear hw hv hF hc
     refine aA (v := .slice (some ⟨b, 0, none⟩) j c) (w' := w') rfl rfl ?_ ⟨rfl, ?_⟩
     ·go_simp
     ·have k := HJJ.out
      exact ⟨k.below, k.cells, fun h => k.bl (by simpa using h), k.gb, fun h => k.ahead (by simpa using h), fun h => k.behind (by simpa using h)⟩
    ·have t0 : y.tmps[35]?.getD undef = .slice (some ⟨b, 0, none⟩) j c := hv 4 (of_decide_eq_true (by kernel_rfl)) (by omega) 35 rfl
     clear hw hv hF hc
     refine aA (v := .pointer (some ⟨b, 0, none⟩)) (w' := w') rfl rfl ?_ ⟨rfl, ?_⟩
     ·go_simp
     ·have k := HJJ.out
      exact ⟨k.below, k.cells, fun h => k.bl (by simpa using h), k.gb, fun h => k.ahead (by simpa using h), fun h => k.behind (by simpa using h)⟩
    ·have t0 : y.tmps[36]?.getD undef = .pointer (some ⟨b, 0, none⟩) := hv 5 (of_decide_eq_true (by kernel_rfl)) (by omega) 36 rfl
     clear hw hv hF hc
     refine aA (v := .pointer (some ⟨b, 1, none⟩)) (w' := w') rfl rfl ?_ ⟨rfl, ?_⟩
     ·go_simp
     ·have k := HJJ.out
      exact ⟨k.below, k.cells, fun h => k.bl (by simpa using h), k.gb, fun h => k.ahead (by simpa using h), fun h => k.behind (by simpa using h)⟩
    ·have t0 : y.tmps[37]?.getD undef = .pointer (some ⟨b, 1, none⟩) := hv 6 (of_decide_eq_true (by kernel_rfl)) (by omega) 37 rfl
     clear hw hv hF hc
     refine aA (v := .int .i64 tag) (w' := w') rfl rfl ?_ ⟨rfl, ?_⟩
     ·go_simp
     ·have k := HJJ.out
      exact ⟨k.below, k.cells, fun h => k.bl (by simpa using h), k.gb, fun h => k.ahead (by simpa using h), fun h => k.behind (by simpa using h)⟩
    ·have t0 : y.tmps[6]?.getD undef = .slice (some ⟨b, 0, none⟩) j c := by rw [hF 6 (sX (by omega))]; rfl
     clear hw hv hF hc
     refine aA (v := .slice (some ⟨b, 0, none⟩) j c) (w' := w') rfl rfl ?_ ⟨rfl, ?_⟩
     ·go_simp
     ·have k := HJJ.out
      exact ⟨k.below, k.cells, fun h => k.bl (by simpa using h), k.gb, fun h => k.ahead (by simpa using h), fun h => k.behind (by simpa using h)⟩
    ·have t0 : y.tmps[39]?.getD undef = .slice (some ⟨b, 0, none⟩) j c := hv 8 (of_decide_eq_true (by kernel_rfl)) (by omega) 39 rfl
     clear hw hv hF hc
     refine aA (v := .pointer (some ⟨b, 0, none⟩)) (w' := w') rfl rfl ?_ ⟨rfl, ?_⟩
     ·go_simp
     ·have k := HJJ.out
      exact ⟨k.below, k.cells, fun h => k.bl (by simpa using h), k.gb, fun h => k.ahead (by simpa using h), fun h => k.behind (by simpa using h)⟩
    ·have t0 : y.tmps[40]?.getD undef = .pointer (some ⟨b, 0, none⟩) := hv 9 (of_decide_eq_true (by kernel_rfl)) (by omega) 40 rfl
     clear hw hv hF hc
     refine aA (v := .pointer (some ⟨b, 3, none⟩)) (w' := w') rfl rfl ?_ ⟨rfl, ?_⟩
     ·go_simp
     ·have k := HJJ.out
      exact ⟨k.below, k.cells, fun h => k.bl (by simpa using h), k.gb, fun h => k.ahead (by simpa using h), fun h => k.behind (by simpa using h)⟩
    ·have t0 : y.tmps[41]?.getD undef = .pointer (some ⟨b, 3, none⟩) := hv 10 (of_decide_eq_true (by kernel_rfl)) (by omega) 41 rfl
     clear hw hv hF hc
     refine aA (v := .int .i64 refs) (w' := w') rfl rfl ?_ ⟨rfl, ?_⟩
     ·go_simp
     ·have k := HJJ.out
      exact ⟨k.below, k.cells, fun h => k.bl (by simpa using h), k.gb, fun h => k.ahead (by simpa using h), fun h => k.behind (by simpa using h)⟩
    ·have t0 : y.tmps[8]?.getD undef = .pointer (some ⟨w1.heap.size, 0, none⟩) := by rw [hF 8 (sX (by omega))]; rfl
     have h14 : L 14 = false := by
      cases h : L 14 with
      | false => rfl
      | true => exact absurd (hc 13 (hc 14 h 13 (of_decide_eq_true (by kernel_rfl))) 12 (of_decide_eq_true (by kernel_rfl))) (by rw [hLo]; simp)
     clear hw hv hF hc
     have k := HJJ.out
     refine aP (f := 35) (args := #[.pointer (some ⟨w1.heap.size, 0, none⟩)]) rfl rfl (by go_simp) ((Cm w1.heap.size w1.heap.size (pJ l) w' (k.bl hLo) k.gb).mono ?_)
     rintro e w4 ⟨rfl, _, hb4, _⟩
     refine ⟨_, rfl, by rw [HJE.out]; rfl, ?_⟩
     have hsz := HB1.out.size
     exact ⟨k.below.trans (hb4.mono hsz), k.cells.kept (hb4.block b HBL.out.1), fun h => by simp at h, Nat.le_trans k.gb hb4.size, fun _ => (k.ahead h14).below hb4 HK1.out.lt, fun h => by simp [h14] at h⟩
    ·have t0 : y.tmps[34]?.getD undef = .int .i64 gen := hv 3 (of_decide_eq_true (by kernel_rfl)) (by omega) 34 rfl
     have t1 : y.tmps[38]?.getD undef = .int .i64 tag := hv 7 (of_decide_eq_true (by kernel_rfl)) (by omega) 38 rfl
     have t2 : y.tmps[42]?.getD undef = .int .i64 refs := hv 11 (of_decide_eq_true (by kernel_rfl)) (by omega) 42 rfl
     have t3 : y.tmps[43]?.getD undef = .string J := hv 12 (of_decide_eq_true (by kernel_rfl)) (by omega) 43 rfl
     clear hw hv hF hc
     refine aA (v := .agg #[.int .i64 gen, .int .i64 tag, .int .i64 refs, .string J]) (w' := w') rfl rfl ?_ ⟨rfl, ?_⟩
     ·go_simp
     ·have k := HJJ.out
      exact ⟨k.below, k.cells, fun h => k.bl (by simpa using h), k.gb, fun h => k.ahead (by simpa using h), fun h => k.behind (by simpa using h)⟩
    ·have t0 : y.tmps[4]?.getD undef = .pointer (some ⟨w.heap.size, 0, none⟩) := by rw [hF 4 (sX (by omega))]; rfl
     have t1 : y.tmps[44]?.getD undef = .agg #[.int .i64 gen, .int .i64 tag, .int .i64 refs, .string J] := hv 13 (of_decide_eq_true (by kernel_rfl)) (by omega) 44 rfl
     have l12 : L 12 = true := hc 13 (hw 13 (of_decide_eq_true (by kernel_rfl))) 12 (of_decide_eq_true (by kernel_rfl))
     clear hw hv hF hc
     have k := HJJ.out
     have b1 := k.ahead hLo
     have k0 := b1.cell 0
     have k1 := b1.cell 1
     have k2 := b1.cell 2
     have k3 := b1.cell 3
     have f0 := b1.frozen 0
     have f1 := b1.frozen 1
     have f2 := b1.frozen 2
     have f3 := b1.frozen 3
     simp at k0 k1 k2 k3
     have b2 := (((b1.put 0 (.int .i64 gen)).put 1 (.int .i64 tag)).put 2 (.int .i64 refs)).put 3 (.string J)
     have hbw := (((k.below.setCell (p := ⟨w.heap.size, 0, none⟩) (Nat.le_refl _) (.int .i64 gen)).setCell (p := ⟨w.heap.size, 1, none⟩) (Nat.le_refl _) (.int .i64 tag)).setCell (p := ⟨w.heap.size, 2, none⟩) (Nat.le_refl _) (.int .i64 refs)).setCell (p := ⟨w.heap.size, 3, none⟩) (Nat.le_refl _) (.string J)
     have hne : b ≠ w.heap.size := by have := HBL.out.2; omega
     refine eC (w' := (((w'.setCell ⟨w.heap.size, 0, none⟩ (.int .i64 gen)).setCell ⟨w.heap.size, 1, none⟩ (.int .i64 tag)).setCell ⟨w.heap.size, 2, none⟩ (.int .i64 refs)).setCell ⟨w.heap.size, 3, none⟩ (.string J)) rfl rfl ?_ ⟨rfl, ?_⟩
     ·go_simp
     ·refine ⟨hbw, k.cells.kept ?_, fun h => by simp [l12] at h, by have := k.gb; simpa [World.setCell] using this, fun h => by simp at h, fun _ => b2⟩
      rw [Below.heap_setCell _ _ _ _ hne, Below.heap_setCell _ _ _ _ hne, Below.heap_setCell _ _ _ _ hne, Below.heap_setCell _ _ _ _ hne]
    ·clear hw hv hF hc
     refine aA (v := .int .i64 0) (w' := w') rfl rfl ?_ ⟨rfl, ?_⟩
     ·go_simp
     ·have k := HJJ.out
      exact ⟨k.below, k.cells, fun h => k.bl (by simpa using h), k.gb, fun h => k.ahead (by simpa using h), fun h => k.behind (by simpa using h)⟩
   case hrest =>
    intro L w' hL hJ
    have HJJ := Lib.hid hJ
    have HBK := Lib.hid (hJ.behind (hL 14 (by omega)))
    clear hL hJ
    simp only [eJ, List.range, List.range.loop, List.foldl, AR, List.getD_cons_zero, List.getD_cons_succ, BD, List.setIfInBounds_toArray, List.set_cons_succ, List.set_cons_zero]
    go_wp2_with fail
    refine dN rfl rfl (aT (off := 0) HBK.out (fun j v h => by rw [Nat.zero_add]; exact h) (fun w => by kernel_rfl) (fun w => by kernel_rfl)) rfl rfl ?_
    exact ⟨by rw [HE.out]; rfl, HJJ.out.below⟩
set_option maxRecDepth 100000
set_option maxHeartbeats 8000000
def lA (R : List LK × Int) : List Int := if R.2 ≠ 0 then [] else R.1.map (·.at_)
theorem vK (K : KD) (t : Int) : (aI K t).1.length <= 40 := by
 have := tL (gI K) 40 [] t
 simpa [aI] using this
theorem Qn (K : KD) (t : Int) : (lA (aI K t)).length <= 40 := by
 unfold lA
 split
 ·simp
 ·rw [List.length_map]; exact vK K t
theorem Dq {w0 w : World} {g gd m N : Nat} {K : KD} {h : List ByteArray} {c0 : Nat} (s : Dm w0 w g gd m K) (r : bU N K h c0) {t0 : Int} (ht : nK t0) :
  Calls Tryz.prog 77 #[.pointer (some ⟨g, 0, none⟩), .int .i64 t0] w fun e w' => ∃ A c, e = .returned (.tuple #[.slice A (lA (aI K t0)).length c, .int .i64 (aI K t0).2]) /\ w'.ownsRow w.heap.size 3 1 (.slice A (lA (aI K t0)).length c) (lA (aI K t0)).length ((lA (aI K t0)).map (Value.int .i64)) /\ (A = none -> c = 0) /\ Below w.heap.size w w' := by
 have HWK : Hid (∀ w1, Below w.heap.size w w1 -> Calls Tryz.prog 33 #[.pointer (some ⟨g, 0, none⟩), .int .i64 t0] w1 fun e w' => sY w1 (aI K t0) e w') := Lib.hid (fun w1 hb => tW (s.below hb) r ht)
 have hlen := vK K t0
 have hpos : (aI K t0).2 = 0 -> 0 < (aI K t0).1.length := fun h => Nat.lt_of_le_of_lt (Nat.zero_le _) (sA (gI K) 40 [] t0 h)
 obtain ⟨R, hR⟩ : ∃ R, R = aI K t0 := ⟨_, rfl⟩
 rw [<- hR] at HWK hlen hpos ⊢
 obtain ⟨l, er⟩ := R
 simp only at hlen hpos
 obtain ⟨n, hn⟩ : ∃ n, n = l.length := ⟨_, rfl⟩
 have HN := Lib.hid hn
 have hnI : (n : Int) <= 40 := by omega
 have HP := Lib.hid hpos
 clear hR s r ht hlen hpos hn
 by_cases he : er = 0
 rotate_left
 ·have z0 : (er == 0) = false := by simpa using he
  have HE : Hid (lA (l, er) = []) := Lib.hid (by unfold lA; rw [if_pos he])
  clear he
  go_enter Tryz.func77, Tryz.ntmps77
  go_wp2_with fail
  refine (HWK.out _ (Below.refl _ _)).mono ?_
  rintro e w1 ⟨A, c, rfl, -, hb1⟩
  go_wp2_with fail
  go_ret2
  rw [HE.out]
  exact ⟨none, 0, rfl, World.ownsRow_nil _ _ _ _, fun _ => rfl, hb1⟩
 subst he
 have hnp : 0 < n := by rw [HN.out]; exact HP.out rfl
 have HE : Hid (lA (l, 0) = l.map (·.at_)) := Lib.hid (by unfold lA; rw [if_neg (by simp)])
 obtain ⟨i0, hi, hz0, hz1, hz2⟩ := info_parts uV
 obtain ⟨M, hM⟩ : ∃ M, M = madeCells (Value.int .i64 0).cells (((n : Nat) : Int).toNat * i0.size) := ⟨_, rfl⟩
 have hMs : M.size = n := by rw [hM, size_madeCells, hz1]; simp
 have hmk : ∀ W : World, (Instr.makeSlice 33 (.int .i64 (n : Int)) (.int .i64 (n : Int))).run Tryz.prog W = .ok (.slice (some ⟨W.heap.size, 0, none⟩) n n) (W.alloc (.cells M 3)) := fun W => by
  have h := run_make (P := Tryz.prog) W 33 3 i0 (.int .i64 0) Tryz.underlying33 hi hz0 .i64 .i64 (n : Int) (n : Int) (by omega) (by omega) (by rw [hz2]; omega) (by omega)
  rw [<- hM] at h
  simpa using h
 have HMS := Lib.hid hMs
 clear hM hMs hi hz0 hz1 hz2
 go_enter Tryz.func77, Tryz.ntmps77
 go_wp2_with fail
 refine (HWK.out _ (Below.refl _ _)).mono ?_
 rintro e w1 ⟨A, c, rfl, hrow, hb1⟩
 rw [show ((l, (0 : Int)).1.length) = n from HN.out.symm] at hrow ⊢
 obtain ⟨b, rfl, hbb, hblt, hcel⟩ := mA hrow hnp
 have HB1 : Hid (Below w.heap.size w w1) := Lib.hid hb1
 have HC1 : Hid (∀ (j : Nat) (x : LK), l[j]? = some x -> gT w1 b (j * 7) x) := Lib.hid hcel
 have HBL : Hid (b < w1.heap.size) := Lib.hid hblt
 clear hrow hbb hblt hcel hb1 HWK
 go_wp2_with fail
 go_loopw [25] (fun i wr => ∃ (j : Nat) (cur : Array Value), j <= n /\ i = .int .i64 j /\ aG wr w1.heap.size 3 cur /\ cur.size = n /\ cur.toList.take j = ((l.take j).map (·.at_)).map (Value.int .i64) /\ Below w1.heap.size w1 wr) (fun i _ => n - (intOf i).toNat)
 case atStart => exact ⟨0, M, Nat.zero_le _, rfl, aG.new _ _ _, HMS.out, by simp, (Below.refl _ _).alloc (Nat.le_refl _) _⟩
 case round =>
  obtain ⟨j, cur, hj, rfl, hbk, hcs, htk, hbr⟩ := hrel
  have HBR := Lib.hid hbr
  have HBK := Lib.hid hbk
  have HCS := Lib.hid hcs
  have HTK := Lib.hid htk
  clear hbk hbr hcs htk
  by_cases hlt : j < n
  ·have hjl : j < l.length := by rw [<- HN.out]; exact hlt
   obtain ⟨y, hy⟩ : ∃ y, l[j]? = some y := ⟨_, List.getElem?_eq_getElem hjl⟩
   have hyb := HBR.out.block b HBL.out
   obtain ⟨c0, c1, c2, c3, c4, c5, c6⟩ := HC1.out j y hy
   have c0 := (World.cell?_of_block (a := ⟨b, j * 7, none⟩) hyb).trans c0
   have c1 := (World.cell?_of_block (a := ⟨b, j * 7 + 1, none⟩) hyb).trans c1
   have c2 := (World.cell?_of_block (a := ⟨b, j * 7 + 2, none⟩) hyb).trans c2
   have c3 := (World.cell?_of_block (a := ⟨b, j * 7 + 3, none⟩) hyb).trans c3
   have c4 := (World.cell?_of_block (a := ⟨b, j * 7 + 4, none⟩) hyb).trans c4
   have c5 := (World.cell?_of_block (a := ⟨b, j * 7 + 5, none⟩) hyb).trans c5
   have c6 := (World.cell?_of_block (a := ⟨b, j * 7 + 6, none⟩) hyb).trans c6
   have HSN : Hid (((l.take (j + 1)).map (·.at_)).map (Value.int .i64) = ((l.take j).map (·.at_)).map (Value.int .i64) ++ [.int .i64 y.at_]) := Lib.hid (by rw [List.take_add_one, hy]; simp)
   obtain ⟨gen, tag, num, refs, next, B, at_⟩ := y
   simp only at c0 c1 c2 c3 c4 c5 c6
   have hjI : (j : Int) < (n : Int) := by omega
   have HLT := Lib.hid hlt
   have HK2 := Lib.hid (HBK.out.alloc (.cells #[.int .i64 gen, .int .i64 tag, .int .i64 num, .int .i64 refs, .int .i64 next, .string B, .int .i64 at_] 83))
   obtain ⟨old, hold⟩ : ∃ old, cur[j]? = some old := ⟨_, Array.getElem?_eq_getElem (by rw [HCS.out]; exact hlt)⟩
   have k0 := (HK2.out.cell j).trans hold
   have f0 := HK2.out.frozen j
   have HW1 : Hid (w1.heap.size < wr.heap.size) := Lib.hid HBK.out.lt
   clear hy hyb hjl hlt hold HC1
   go_wp2_with fail
   refine ⟨⟨j + 1, cur.setIfInBounds j (.int .i64 at_), HLT.out, by go_num, HK2.out.put j _, by rw [Array.size_setIfInBounds]; exact HCS.out, ?_, (HBR.out.alloc HBR.out.size _).setCell (Nat.le_refl _) _⟩, by have := HLT.out; simp [intOf]; omega⟩
   rw [HSN.out, <- HTK.out, Array.toList_setIfInBounds, List.take_add_one, List.take_set_of_le (Nat.le_refl _), List.getElem?_set_self (by rw [Array.length_toList, HCS.out]; exact HLT.out)]
   rfl
  ·obtain rfl : j = n := by omega
   have htk : l.take j = l := List.take_of_length_le (by rw [<- HN.out]; exact Nat.le_refl _)
   have HT : Hid (cur.toList = (l.map (·.at_)).map (Value.int .i64)) := Lib.hid (by have h := HTK.out; rw [htk, List.take_of_length_le (by rw [Array.length_toList, HCS.out]; exact Nat.le_refl _)] at h; exact h)
   clear htk hj HC1
   go_wp2_with fail
   go_ret2
   rw [HE.out, List.length_map, <- HN.out]
   refine ⟨some ⟨w1.heap.size, 0, none⟩, j, rfl, ⟨by rw [List.length_map, List.length_map, <- HN.out]; omega, .inr ⟨w1.heap.size, j, cur, rfl, HB1.out.size, HBK.out, Nat.le_refl _, by unfold maxLen; omega, by rw [HCS.out, Nat.mul_one], ?_⟩⟩, (fun h => by cases h), HB1.out.trans (HBR.out.mono HB1.out.size)⟩
   rw [HT.out, List.take_of_length_le (by rw [List.length_map, List.length_map, <- HN.out]; omega)]
def rD (K : KD) (t : Int) : Int := if (aI K t).2 ≠ 0 then (aI K t).2 else uP K (lA (aI K t))
def rE (K : KD) (t : Int) : KD := if (aI K t).2 ≠ 0 then K else uQ K (lA (aI K t))
theorem Qo {w0 w : World} {g gd m N : Nat} {K : KD} {Ms : List MK} {h : List ByteArray} {c0 : Nat} (s : eK w0 w g gd m N K Ms) (r : bU N K h c0) {t0 : Int} (ht : nK t0) :
  Calls Tryz.prog 41 #[.pointer (some ⟨g, 0, none⟩), .int .i64 t0] w fun e w' => e = .returned (.int .i64 (rD K t0)) /\ eK w0 w' g gd m N (rE K t0) Ms := by
 have HSE := Lib.hid (Dq s.st r ht)
 have HS := Lib.hid s
 have HR := Lib.hid r
 obtain ⟨l, hl⟩ : ∃ l, l = lA (aI K t0) := ⟨_, rfl⟩
 obtain ⟨er, her⟩ : ∃ er, er = (aI K t0).2 := ⟨_, rfl⟩
 have hll : l.length <= 40 := by rw [hl]; exact Qn K t0
 rw [<- hl, <- her] at HSE
 have HE : Hid (rD K t0 = if er ≠ 0 then er else uP K l) := Lib.hid (by rw [hl, her]; rfl)
 have HK : Hid (rE K t0 = if er ≠ 0 then K else uQ K l) := Lib.hid (by rw [hl, her]; rfl)
 rw [HE.out, HK.out]
 obtain ⟨n, hn⟩ : ∃ n, n = l.length := ⟨_, rfl⟩
 rw [<- hn] at HSE
 have HN := Lib.hid hn
 have HLL := Lib.hid hll
 clear s r ht hl her HE HK hn hll
 by_cases he : er = 0
 rotate_left
 ·have z0 : (er == 0) = false := by simpa using he
  rw [if_pos he, if_pos he]
  clear he
  go_enter Tryz.func41, Tryz.ntmps41
  go_wp2_with fail
  refine HSE.out.mono ?_
  rintro e w1 ⟨A, c, rfl, -, -, hb1⟩
  have HS1 := Lib.hid (HS.out.below hb1)
  clear hb1
  go_wp2_with fail
  go_ret
  exact ⟨rfl, HS1.out⟩
 subst he
 rw [if_neg (by simp), if_neg (by simp)]
 go_enter Tryz.func41, Tryz.ntmps41
 go_wp2_with fail
 refine HSE.out.mono ?_
 rintro e w1 ⟨A, c, rfl, hrow, -, hb1⟩
 have HS1 := Lib.hid (HS.out.below hb1)
 obtain ⟨A', c', e', -, hint⟩ := Sy hrow
 injection e' with e1 e2 e3
 subst e1 e3
 have HIN := Lib.hid hint
 clear hb1 hrow hint e2
 go_wp2_with fail
 refine (Ss HS1.out HR.out A n c l HN.out.symm HIN.out (by rw [HN.out]; have := HLL.out; omega)).mono ?_
 rintro e w2 ⟨rfl, hs2⟩
 go_wp2_with fail
 go_ret
 exact ⟨rfl, hs2⟩
set_option maxRecDepth 100000
set_option maxHeartbeats 8000000
def fQ (K : KD) (t : Int) : LK := (aI K t).1.headD LK.zero
def vL (x : LK) (by_ : Int) : LK := { x with refs := x.refs + by_ }
def sZ (K : KD) (t by_ : Int) : Int × Int :=
 if (aI K t).2 ≠ 0 then (0, (aI K t).2)
 else if by_ < -(fQ K t).refs \/ 60000 - (fQ K t).refs < by_ then (0, 15)
 else if oN K t (bs (vL (fQ K t) by_).text) ≠ 0 then (0, oN K t (bs (vL (fQ K t) by_).text)) else ((fQ K t).refs + by_, 0)
def vM (K : KD) (t by_ : Int) : KD :=
 if (aI K t).2 ≠ 0 then K
 else if by_ < -(fQ K t).refs \/ 60000 - (fQ K t).refs < by_ then K
 else nZ K t (bs (vL (fQ K t) by_).text)
theorem Kz {b : ByteArray} (h : (bJ b).2 = true) : 1 <= (bJ b).1.gen /\ (bJ b).1.gen <= 3 /\ 0 <= (bJ b).1.tag /\ (bJ b).1.tag <= 200 /\ (bJ b).1.refs <= 60000 /\ (bJ b).1.data.size <= 236 := by
 unfold bJ at h ⊢
 split at h
 ·cases h
 ·rename_i he
  rw [if_neg he]
  have h : Yn b = true := h
  unfold Yn at h
  simp only [Bool.and_eq_true, decide_eq_true_eq] at h
  obtain ⟨⟨⟨⟨-, -⟩, h3⟩, h4⟩, h5⟩ := h
  have h3 := of_decide_eq_true h3
  exact ⟨h3.1, h3.2.1, h3.2.2.1, h3.2.2.2, h4, h5⟩
theorem La (s : Rd) (k : Nat) : 0 <= (s.num k).1 /\ (s.num k).1 < ((256 ^ k : Nat) : Int) := by
 have hp : 0 < 256 ^ k := Nat.pow_pos (by decide)
 unfold Rd.num
 cases ht : (s.take k).2.1 with
 | true =>
   have hsz := Rd.take_size ht
   have hl := Cj (s.take k).1.data.toList
   rw [<- Lib.size_eq, hsz] at hl
   simp only [if_true]
   split
   ·constructor
    ·exact Int.le_refl _
    ·omega
   ·constructor
    ·omega
    ·exact Int.ofNat_lt.2 hl
 | false =>
   simp only [Bool.false_eq_true, if_false]
   omega
theorem Lb (b : ByteArray) : (0 <= (bJ b).1.num /\ (bJ b).1.num < 256) /\ (0 <= (bJ b).1.refs /\ (bJ b).1.refs < 65536) /\ (0 <= (bJ b).1.next /\ (bJ b).1.next < 65536) := by
 unfold bJ
 split
 ·exact ⟨⟨by decide, by decide⟩, ⟨by decide, by decide⟩, ⟨by decide, by decide⟩⟩
 ·exact ⟨La _ 1, La _ 2, La _ 2⟩
theorem vN {G : Int -> ByteArray × Int} : ∀ (n : Nat) (l : List LK) (t : Int), (∀ x ∈ l, x.Ok) -> ∀ x ∈ (dX G n l t).1, x.Ok
 | 0, l, t, _ => by intro x hx; cases hx
 | n + 1, l, t, h => by
   unfold dX
   split
   ·intro x hx; cases hx
   ·split
    ·intro x hx; cases hx
    ·rename_i hno
     have hr : (bJ (G t).1).2 = true := by
      cases hh : (bJ (G t).1).2 with
      | true => rfl
      | false => exact absurd (.inl hh) hno
     have h2 : ∀ x ∈ l ++ [((bJ (G t).1).1.put t)], x.Ok := by
      intro x hx
      rcases List.mem_append.1 hx with hx | hx
      ·exact h x hx
      ·rw [List.mem_singleton.1 hx]
       obtain ⟨a1, a2, a3, a4, a5, a6⟩ := Kz hr
       obtain ⟨b1, b2, b3⟩ := Lb (G t).1
       exact ⟨⟨a1, a2, a3, a4⟩, b1, ⟨b2.1, a5⟩, b3, a6⟩
     split
     ·exact h2
     ·exact vN n _ _ h2
theorem Cd {K : KD} {t : Int} (he : (aI K t).2 = 0) : (fQ K t).Ok /\ (aI K t).1[0]? = some (fQ K t) := by
 have hp := sA (gI K) 40 [] t he
 have hl := vN (G := gI K) 40 [] t (fun x hx => by cases hx)
 unfold fQ
 cases hc : (aI K t).1 with
 | nil =>
   have : (aI K t).1 = (dX (gI K) 40 [] t).1 := rfl
   rw [<- this, hc] at hp
   exact absurd hp (by simp)
 | cons x r =>
   refine ⟨hl x ?_, rfl⟩
   show x ∈ (aI K t).1
   rw [hc]
   simp
theorem Qp {w0 w : World} {g gd m N : Nat} {K : KD} {Ms : List MK} {h : List ByteArray} {c0 : Nat} (s : eK w0 w g gd m N K Ms) (r : bU N K h c0) (hm : m < 1000000) {t0 by_ : Int} (ht : nK t0) (hb : nK by_) :
  Calls Tryz.prog 40 #[.pointer (some ⟨g, 0, none⟩), .int .i64 t0, .int .i64 by_] w fun e w' => e = .returned (.tuple #[.int .i64 (sZ K t0 by_).1, .int .i64 (sZ K t0 by_).2]) /\ eK w0 w' g gd (m + 1) N (vM K t0 by_) Ms := by
 have HWK := Lib.hid (tW s.st r ht)
 have HS := Lib.hid s
 have HR := Lib.hid r
 have HM := Lib.hid hm
 have hfo := fun (he : (aI K t0).2 = 0) => Cd he
 obtain ⟨x, hx⟩ : ∃ x, x = fQ K t0 := ⟨_, rfl⟩
 obtain ⟨er, her⟩ : ∃ er, er = (aI K t0).2 := ⟨_, rfl⟩
 have HE : Hid (sZ K t0 by_ = if er ≠ 0 then (0, er) else if by_ < -x.refs \/ 60000 - x.refs < by_ then (0, 15) else if oN K t0 (bs (vL x by_).text) ≠ 0 then (0, oN K t0 (bs (vL x by_).text)) else (x.refs + by_, 0)) := Lib.hid (by rw [hx, her]; rfl)
 have HK : Hid (vM K t0 by_ = if er ≠ 0 then K else if by_ < -x.refs \/ 60000 - x.refs < by_ then K else nZ K t0 (bs (vL x by_).text)) := Lib.hid (by rw [hx, her]; rfl)
 rw [HE.out, HK.out]
 rw [<- hx, <- her] at hfo
 obtain ⟨l, hl⟩ : ∃ l, l = (aI K t0).1 := ⟨_, rfl⟩
 have hR : aI K t0 = (l, er) := by rw [hl, her]
 rw [<- hl] at hfo
 rw [hR] at HWK
 obtain ⟨n, hn⟩ : ∃ n, n = l.length := ⟨_, rfl⟩
 have HN := Lib.hid hn
 have HF := Lib.hid hfo
 obtain ⟨hb0, hb1⟩ := hb
 clear s r ht hx her HE HK hn hfo hl hR hm
 by_cases he : er = 0
 rotate_left
 ·have z0 : (er == 0) = false := by simpa using he
  rw [if_pos he, if_pos he]
  clear he
  go_enter Tryz.func40, Tryz.ntmps40
  go_wp2_with fail
  refine HWK.out.mono ?_
  rintro e w1 ⟨A, c, rfl, -, hb1⟩
  have HS1 := Lib.hid (HS.out.below hb1)
  clear hb1
  go_wp2_with fail
  go_ret2
  exact ⟨rfl, HS1.out.mono (by omega)⟩
 subst he
 have hz0 : ¬ ((0 : Int) ≠ 0) := by simp
 rw [if_neg hz0, if_neg hz0]
 clear hz0
 obtain ⟨hxo, hx0⟩ := HF.out rfl
 have hnp : 0 < n := by
  rw [HN.out]
  rcases Nat.eq_zero_or_pos l.length with h0 | h0
  ·rw [List.getElem?_eq_none (by omega)] at hx0; cases hx0
  ·exact h0
 have hnpI : 0 < (n : Int) := by omega
 have hr0 := hxo.refs
 have HX0 := Lib.hid hx0
 have HWK2 : Hid (Calls Tryz.prog 33 #[.pointer (some ⟨g, 0, none⟩), .int .i64 t0] w fun e w' => ∃ b c, e = .returned (.tuple #[.slice (some ⟨b, 0, none⟩) n c, .int .i64 0]) /\ gT w' b 0 x /\ Below w.heap.size w w') := Lib.hid (HWK.out.mono (fun e w1 ⟨A, c, he, hrow, hb1⟩ => by
  rw [show ((l, (0 : Int)).1.length) = n from HN.out.symm] at he hrow
  obtain ⟨b, rfl, hbb, hblt, hcel⟩ := mA hrow hnp
  have hc := hcel 0 x HX0.out
  rw [Nat.zero_mul] at hc
  exact ⟨b, c, he, hc, hb1⟩))
 have HXO := Lib.hid hxo
 obtain ⟨X0, hX0⟩ : ∃ X0, X0 = x := ⟨_, rfl⟩
 have HXE := Lib.hid hX0
 rw [<- hX0] at HXO
 obtain ⟨gen, tag, num, refs, next, B, at_⟩ := x
 simp only at hr0 ⊢
 obtain ⟨r0, r1⟩ := hr0
 have q1 : IntKind.i64.wrap (-refs) = -refs := by rw [IntKind.wrap_i64]; omega
 have q2 : IntKind.i64.wrap (60000 - refs) = 60000 - refs := by rw [IntKind.wrap_i64]; omega
 clear hxo hx0 HF HWK HX0 HN hX0
 by_cases h1 : by_ < -refs
 ·rw [if_pos (.inl h1), if_pos (.inl h1)]
  go_enter Tryz.func40, Tryz.ntmps40
  go_wp2_with fail
  refine HWK2.out.mono ?_
  rintro e w1 ⟨b, c, rfl, ⟨e0, e1, e2, e3, e4, e5, e6⟩, hb1⟩
  simp only [Nat.zero_add] at e0 e1 e2 e3 e4 e5 e6
  have HS1 := Lib.hid (HS.out.below (hb1.trans (((Below.refl w1.heap.size w1).alloc (Nat.le_refl _) (.cells #[.int .i64 gen, .int .i64 tag, .int .i64 num, .int .i64 refs, .int .i64 next, .string B, .int .i64 at_] 83)).mono hb1.size)))
  clear hb1
  go_wp2_with fail
  go_ret2
  exact ⟨rfl, HS1.out.mono (by omega)⟩
 by_cases h2 : 60000 - refs < by_
 ·rw [if_pos (.inr h2), if_pos (.inr h2)]
  go_enter Tryz.func40, Tryz.ntmps40
  go_wp2_with fail
  refine HWK2.out.mono ?_
  rintro e w1 ⟨b, c, rfl, ⟨e0, e1, e2, e3, e4, e5, e6⟩, hb1⟩
  simp only [Nat.zero_add] at e0 e1 e2 e3 e4 e5 e6
  have HS1 := Lib.hid (HS.out.below (hb1.trans (((Below.refl w1.heap.size w1).alloc (Nat.le_refl _) (.cells #[.int .i64 gen, .int .i64 tag, .int .i64 num, .int .i64 refs, .int .i64 next, .string B, .int .i64 at_] 83)).mono hb1.size)))
  clear hb1
  go_wp2_with fail
  go_ret2
  exact ⟨rfl, HS1.out.mono (by omega)⟩
 have hno : ¬ (by_ < -refs \/ 60000 - refs < by_) := by omega
 rw [if_neg hno, if_neg hno]
 obtain ⟨rr, hrr⟩ : ∃ rr, rr = refs + by_ := ⟨_, rfl⟩
 have q3 : IntKind.i64.wrap (refs + by_) = rr := by rw [IntKind.wrap_i64, hrr]; omega
 have HOK : Hid ((LK.mk gen tag num rr next B at_).Ok) := Lib.hid (by
  have k := HXO.out
  rw [HXE.out] at k
  exact ⟨k.fit, k.num, by show 0 <= rr /\ rr <= 60000; omega, k.next, k.data⟩)
 have HLAY : Hid (∀ w1, Calls Tryz.prog 48 #[.agg #[.int .i64 gen, .int .i64 tag, .int .i64 num, .int .i64 rr, .int .i64 next, .string B, .int .i64 at_]] w1 fun e w' => e = .returned (.string (bs (LK.mk gen tag num rr next B at_).text)) /\ Below w1.heap.size w1 w') := Lib.hid (fun w1 => Bi (LK.mk gen tag num rr next B at_) w1 HOK.out)
 have hre : vL (LK.mk gen tag num refs next B at_) by_ = LK.mk gen tag num rr next B at_ := by rw [hrr]; rfl
 rw [hre, <- hrr]
 obtain ⟨X, hX⟩ : ∃ X, X = bs (LK.mk gen tag num rr next B at_).text := ⟨_, rfl⟩
 rw [<- hX] at HLAY ⊢
 have HXS : Hid (X.size <= 100000) := Lib.hid (by rw [hX, dO, HOK.out.text_len]; omega)
 obtain ⟨se, hse⟩ : ∃ se, se = oN K t0 X := ⟨_, rfl⟩
 rw [<- hse]
 have HSE := Lib.hid hse
 obtain ⟨K', hK'⟩ : ∃ K', K' = nZ K t0 X := ⟨_, rfl⟩
 rw [<- hK']
 have HKE := Lib.hid hK'
 have HSET : Hid (∀ w2 b o, eK w0 w2 g gd m N K (.held b o :: Ms) -> Calls Tryz.prog 76 #[.pointer (some ⟨g, 0, none⟩), .int .i64 t0, .string X] w2 fun e w' => e = .returned (.int .i64 se) /\ eK w0 w' g gd (m + 1) N K' (.held b o :: Ms)) := Lib.hid (fun w2 b o hs => by
  rw [HSE.out, HKE.out]
  exact Wz hs HR.out HM.out t0 HXS.out)
 clear hno hrr hre hX hse hK'
 have go : ∀ (Q : Ending -> World -> Prop), (∀ w3, eK w0 w3 g gd (m + 1) N K' Ms -> Q (.returned (.tuple #[.int .i64 (if se ≠ 0 then 0 else rr), .int .i64 se])) w3) -> Calls Tryz.prog 40 #[.pointer (some ⟨g, 0, none⟩), .int .i64 t0, .int .i64 by_] w Q := by
  intro Q hQ
  have HQ := Lib.hid hQ
  clear hQ
  go_enter Tryz.func40, Tryz.ntmps40
  go_wp2_with fail
  refine HWK2.out.mono ?_
  rintro e w1 ⟨b, c, rfl, ⟨e0, e1, e2, e3, e4, e5, e6⟩, hb1⟩
  simp only [Nat.zero_add] at e0 e1 e2 e3 e4 e5 e6
  have HS1 := Lib.hid (HS.out.below hb1)
  clear hb1
  go_wp2_with fail
  refine (HLAY.out _).mono ?_
  rintro e w2 ⟨rfl, hb2⟩
  have HS2 : Hid (eK w0 w2 g gd m N K (.held w1.heap.size (.cells #[.int .i64 gen, .int .i64 tag, .int .i64 num, .int .i64 rr, .int .i64 next, .string B, .int .i64 at_] 83) :: Ms)) := Lib.hid (by
   have h0 := HS1.out.hold (w' := w1.alloc (.cells #[.int .i64 gen, .int .i64 tag, .int .i64 num, .int .i64 rr, .int .i64 next, .string B, .int .i64 at_] 83)) ((Below.refl _ _).alloc (Nat.le_refl _) _) (Nat.le_refl _) (aG.new w1 83 #[.int .i64 gen, .int .i64 tag, .int .i64 num, .int .i64 rr, .int .i64 next, .string B, .int .i64 at_])
   exact h0.below hb2)
  clear hb2 HS1 e0 e1 e2 e3 e4 e5 e6
  go_wp2_with fail
  refine (HSET.out _ _ _ HS2.out).mono ?_
  rintro e w3 ⟨rfl, hs3⟩
  have cm := aG.cell (show aG w3 w1.heap.size 83 #[.int .i64 gen, .int .i64 tag, .int .i64 num, .int .i64 rr, .int .i64 next, .string B, .int .i64 at_] from hs3.held (by simp)) 3
  simp at cm
  have HS3 : Hid (eK w0 w3 g gd (m + 1) N K' Ms) := Lib.hid (hs3.less (fun M hM => by simp [hM]))
  clear hs3 HS2
  by_cases hz : se = 0
  ·subst hz
   go_wp2_with fail
   have := HQ.out w3 HS3.out
   rw [if_neg (by simp)] at this
   exact this
  ·have z0 : (se == 0) = false := by simpa using hz
   have HZ := Lib.hid hz
   clear hz
   go_wp2_with fail
   have := HQ.out w3 HS3.out
   rw [if_pos HZ.out] at this
   exact this
 refine go _ (fun w3 h3 => ⟨?_, h3⟩)
 by_cases hz : se = 0
 ·rw [if_neg (by simp [hz]), if_neg (by simp [hz]), hz]
 ·rw [if_pos hz, if_pos hz]
structure iY (N : Nat) (K : KD) (h : List ByteArray) : Prop where
 run : bU N K h 2
 H : K.H = [0, 1]
 F : K.F = fun _ => .empty
 pend : cH K = []
 kept : K.kept = eZ K
 home : h = (List.replicate (N - 111) (aY 256)).set 1 (bs (mW (N - 111) [0, 1]))
theorem Lc {N : Nat} (hN : 140 <= N /\ N <= 400) : vI (gV (DS.fresh N (aY 256)) 0) = 0 /\ ∃ h, iY N (iH (gV (DS.fresh N (aY 256)) 0)) h := by
 have hs : tT N 0 (List.replicate (N - 111) (aY 256)) (DS.fresh N (aY 256)).now := zF N hN
 have r := Pt (c := 1) hs (s0 := List.replicate N (aY 256)) (s := List.replicate N (aY 256)) (d := []) (n := 0) rfl (DS.Ok.fresh _ _) (by omega) (by omega) (by simp)
 have hp := Ux hs
 obtain ⟨a1, a2, a3, a4, a5, a6, a7⟩ := r.sync (by omega) (by rw [eV, hp]; decide)
 refine ⟨a1, _, a2, by rw [a4]; rfl, a6, a3, ?_, ?_⟩
 ·rw [a5]
  unfold eZ
  rw [a4, a2.ok.len, r.ok.len]
 have e1 : cA (gV (DS.fresh N (aY 256)) 0) = [(0, aY 256), (1, bs (mW (N - 111) [0, 1]))] := by
  unfold cA
  rw [hp]
  have g0 : gF (gV (DS.fresh N (aY 256)) 0) 0 = aY 256 := by unfold gF; rw [if_neg (by decide)]; exact iP (fun _ => .empty) 0 (aY 256)
  have g1 : gF (gV (DS.fresh N (aY 256)) 0) 1 = bs (mW (N - 111) [0, 1]) := by
   unfold gF
   rw [if_pos rfl]
   unfold eZ
   have : (gV (DS.fresh N (aY 256)) 0).S.now.length = N := by show (List.replicate N (aY 256)).length = N; simp
   rw [this]
   rfl
  simp [g0, g1]
 rw [e1]
 clear e1 a1 a2 a3 a4 a5 a6 a7 hp r hs
 generalize aY 256 = z
 show ((List.replicate (N - 111) z).set 0 z).set 1 _ = _
 congr 1
 apply List.ext_getElem?
 intro i
 by_cases hi : i = 0
 ·subst hi
  rw [List.getElem?_set_self (by simp; omega), List.getElem?_replicate, if_pos (by omega)]
 ·rw [List.getElem?_set_ne (fun e => hi e.symm)]
theorem Vj {N : Nat} (hN : 140 <= N /\ N <= 400) (w0 w : World) (hb : Below w0.heap.size w0 w) {gd : Nat} {O : List Nat} (hd : bE w O gd (DS.fresh N (aY 256))) (hO : ∀ b ∈ O, w0.heap.size <= b) :
  Calls Tryz.prog 26 #[.pointer (some ⟨gd, 0, none⟩)] w fun e w' => ∃ g h, e = .returned (.tuple #[.pointer (some ⟨g, 0, none⟩), .int .i64 0]) /\ Dm w0 w' g gd 1 (iH (gV (DS.fresh N (aY 256)) 0)) /\ iY N (iH (gV (DS.fresh N (aY 256)) 0)) h := by
 have hs : tT N 0 (List.replicate (N - 111) (aY 256)) (DS.fresh N (aY 256)).now := zF N hN
 obtain ⟨hE, h, hF⟩ := Lc hN
 refine (Km hs (DS.Ok.fresh _ _) (by show (0 : Nat) <= 100; omega) (by show (0 : Nat) < _; omega) (by show (0 : Nat) < _; omega) hE (Xx (Qf hd rfl hs))).mono ?_
 rintro e w' ⟨g, rfl, ho⟩
 exact ⟨g, h, rfl, Dm.of_open hO hb ho, hF⟩
end Go.Proofs.YtingkbeifohihaaGreatDoor
