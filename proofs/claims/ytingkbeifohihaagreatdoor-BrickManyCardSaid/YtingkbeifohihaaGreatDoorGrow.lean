/-
  A region that draws its order, walked once in its text's order though its calls make new memory: each operation of known value in every world that has property J, each call leading from one such world to another. No statement is proved here.
-/
import Derived.Test.YtingkbeifohihaaGreatDoorCrcSeal
import Derived.Test.YtingkbeifohihaaGreatDoorRegionApp
import Derived.Deep.DeepCutAuto
import Derived.Deep.RegionWith
import Derived.Test.YtingkbeifohihaaGreatDoorHeadLib
import Derived.Still
import Derived.Tactics
import Derived.KernelRfl
namespace Go.Proofs.YtingkbeifohihaaGreatDoor
open Go.RowKit
set_option maxRecDepth 100000
set_option maxHeartbeats 4000000
def lW (l : List UInt8) : Value := .tuple #[.string ⟨(fJ l).1.toArray⟩, .int .i64 (fJ l).2]
theorem Jw (b : ByteArray) (w : World) (h : b.size < 4) :
  Calls Tryz.prog 113 #[.string b] w fun e w' => e = .returned (lW b.data.toList) /\ w = w' := by
 have E : lW b.data.toList = .tuple #[.string .empty, .int .i64 5] := by unfold lW fJ; rw [if_pos (by rw [<- Lib.size_eq]; exact h)]; rfl
 rw [E]
 clear E
 go_enter Tryz.func113, Tryz.ntmps113
 go_wp2_with fail
 go_ret2
 exact ⟨rfl, rfl⟩
theorem Ui (T : ByteArray) (h : T.size = 4) : ((Rd.mk T 0).num 4).1 = (oC T.data.toList : Int) := by
 have e : (Rd.mk T 0).take 4 = (T, true, ⟨.empty, 0⟩) := by
  unfold Rd.take
  rw [if_neg (by simp), if_neg (by omega), if_neg (by simp only []; omega)]
  have e1 : T.extract 0 (4 : Int).toNat = T := by
   have : (4 : Int).toNat = T.size := by rw [h]; rfl
   rw [this]
   exact ByteArray.extract_zero_size
  have e2 : T.extract (4 : Int).toNat T.size = .empty := by
   have : (4 : Int).toNat = T.size := by rw [h]; rfl
   rw [this]
   apply ByteArray.ext
   simp
  simp only [e1, e2]
 have hl := Cj T.data.toList
 have hs : T.data.toList.length = 4 := by rw [<- Lib.size_eq]; exact h
 rw [hs] at hl
 unfold Rd.num
 have e' : (Rd.mk T 0).take ((4 : Nat) : Int) = (T, true, ⟨.empty, 0⟩) := e
 rw [e', if_pos rfl, if_neg (by simp only []; omega)]
theorem Gh (x : ByteArray) : aW [x] = x.data.toList := by simp [aW]
def pB (a c : Nat) : Bool := ((a : Int) != (c : Int))
theorem Uj {b H T : ByteArray} {k : Nat} (hk : b.size = k + 4) (hT : T = b.extract k b.size) (hH : H = b.extract 0 k) :
  lW b.data.toList = if oC T.data.toList = tB H.data.toList then .tuple #[.string H, .int .i64 0] else .tuple #[.string .empty, .int .i64 7] := by
 have hl : b.data.toList.length = k + 4 := by rw [<- Lib.size_eq]; exact hk
 have eT : T.data.toList = b.data.toList.drop k := by
  rw [hT, ByteArray.data_extract, Array.toList_extract, List.extract_eq_take_drop, List.take_of_length_le (by rw [List.length_drop, hl, hk]; exact Nat.le_refl _)]
 have eH : H.data.toList = b.data.toList.take k := by
  rw [hH, ByteArray.data_extract, Array.toList_extract, List.extract_eq_take_drop, List.drop_zero, Nat.sub_zero]
 unfold lW fJ
 rw [if_neg (by omega), show b.data.toList.length - 4 = k by omega, <- eT, <- eH]
 split <;> rfl
theorem Pj {a c : Nat} (h : a = c) : pB a c = false := by unfold pB; rw [h]; simp
theorem Jy {a c : Nat} (h : a ≠ c) : pB a c = true := by unfold pB; rw [bne_iff_ne]; omega
section
variable (b H T : ByteArray) (k : Nat) (w0 : World)
def mE (w : World) (L : Nat -> Bool) (i : Nat) (v : Value) : Prop :=
 match i with
 | 0 | 5 => v = .string b
 | 1 | 6 => v = .int .i64 k
 | 2 => v = .string T
 | 3 => L 4 = false -> ∃ g, v = .pointer (some ⟨g, 0, none⟩) /\ w0.heap.size <= g /\ bP w g ⟨T, 0⟩
 | 4 => v = .int .i64 (oC T.data.toList)
 | 7 => v = .string H
 | 8 => ∃ g, v = .slice (some ⟨g, 0, none⟩) 1 1 /\ w0.heap.size <= g /\ aG w g 9 #[.string H]
 | 9 => v = .int .u32 (tB H.data.toList)
 | 10 => v = .int .i64 (tB H.data.toList)
 | _ => v = .bool (pB (oC T.data.toList) (tB H.data.toList))
theorem Gi {w : World} {L : Nat -> Bool} {v : Value} (h : mE b H T k w0 w L 8 v) : ∃ g, v = .slice (some ⟨g, 0, none⟩) 1 1 /\ w0.heap.size <= g /\ aG w g 9 #[.string H] := by
 unfold mE at h
 exact h
theorem Dh {w w' : World} {L L' : Nat -> Bool} (hb : Below w.heap.size w w') (hL : L' 4 = false -> L 4 = false) (i : Nat) (v : Value) (h : mE b H T k w0 w L i v) : mE b H T k w0 w' L' i v := by
 unfold mE at *
 split at h <;> first
  | exact h
  | (intro h4; obtain ⟨g, e, h1, h2⟩ := h (hL h4); exact ⟨g, e, h1, h2.below hb (aG.lt h2)⟩)
  | (obtain ⟨g, e, h1, h2⟩ := h; exact ⟨g, e, h1, h2.below hb h2.lt⟩)
theorem Gj {w w' : World} {L L' : Nat -> Bool} {g : Nat} {s : Rd} (hg : w.grownBy w' (some g)) (hI : bP w g s) (hL : L' 4 = true) (i : Nat) (v : Value) (h : mE b H T k w0 w L i v) : mE b H T k w0 w' L' i v := by
 unfold mE at *
 split at h <;> first
  | exact h
  | (intro h4; rw [hL] at h4; cases h4)
  | (obtain ⟨g', e, h1, h2⟩ := h
     refine ⟨g', e, h1, h2.grown hg (fun e => ?_)⟩
     injection e with e
     subst e
     have := h2.symm.trans hI
     injection this with this
     injection this with _ this
     cases this)
def Hj (b : ByteArray) (k : Nat) : Act :=
 ⟨#[.string b, undef, .string .empty, .int .i64 0, .int .i64 k, .string b, .int .i64 b.size, .int .i64 k, .int .i64 k, .bool (decide ((k : Int) < 0)), undef, undef, undef, undef, undef, undef, undef, undef, undef, undef, undef, undef, undef, undef, undef, undef], []⟩
def vF (F : Act) (L : Nat -> Bool) (x : Act) (w : World) : Prop := bI F 10 21 x /\ Hr 12 10 (mE b H T k w0 w L) L x /\ Below w0.heap.size w0 w
theorem iF {F : Act} {L : Nat -> Bool} {x : Act} {w w' : World} (hF26 : F.tmps.size = 26) (i : Nat) (v : Value) (h : vF b H T k w0 F L x w) (hi : i < 12) (h4 : i ≠ 4) (hb : Below w.heap.size w w')
  (hv : mE b H T k w0 w' (fun j => if i = j then true else L j) i v) : vF b H T k w0 F (fun j => if i = j then true else L j) (x.put (some (10 + i)) v) w' := by
 obtain ⟨h1, h2, h3⟩ := h
 refine ⟨h1.put _ v (by omega) (by omega), h2.next i v (by rw [h1.2.1, hF26]; omega) (fun j u _ _ hju => Dh b H T k w0 hb (fun hL => ?_) j u hju) hv, h3.trans (hb.mono h3.size)⟩
 simpa only [if_neg h4] using hL
theorem Xr {F : Act} {L : Nat -> Bool} {x : Act} {w w' : World} {g : Nat} (hF26 : F.tmps.size = 26) (h : vF b H T k w0 F L x w) (hI : bP w g ⟨T, 0⟩) (hg0 : w0.heap.size <= g) (hg : w.grownBy w' (some g)) :
  vF b H T k w0 F (fun j => if 4 = j then true else L j) (x.put (some (10 + 4)) (.int .i64 (oC T.data.toList))) w' := by
 obtain ⟨h1, h2, h3⟩ := h
 refine ⟨h1.put _ _ (by omega) (by omega), h2.next 4 _ (by rw [h1.2.1, hF26]; omega) (fun j u _ _ hju => Gj b H T k w0 hg hI rfl j u hju) rfl, aH h3 hg hg0⟩
end
theorem Xs (b : ByteArray) (k : Nat) (w : World) (hk : b.size = k + 4) (hb : b.size <= 140737488351232) :
  Calls Tryz.prog 113 #[.string b] w fun e w' => e = .returned (lW b.data.toList) /\ Below w.heap.size w w' := by
 have hk1 : k + 4 <= b.size := by omega
 have hk2 : b.size <= k + 4 := by omega
 have HKB := Lib.hid hk
 clear hk
 obtain ⟨T, hT⟩ : ∃ T, T = b.extract k b.size := ⟨_, rfl⟩
 obtain ⟨H, hH⟩ : ∃ H, H = b.extract 0 k := ⟨_, rfl⟩
 have HT := Lib.hid hT
 have HH := Lib.hid hH
 have HT4 : Hid (T.size = 4) := Lib.hid (by rw [hT]; simp; omega)
 have HHs : Hid (H.size <= 140737488351232) := Lib.hid (by rw [hH]; simp; omega)
 clear hT hH
 go_enter Tryz.func113, Tryz.ntmps113
 go_upto_region 4 with fail
 rw [show (b.size : Int) - 4 = (k : Int) from by omega]
 refine cJ (vF b H T k w (Hj b k)) (by kernel_rfl) (by kernel_rfl) ?h0 ?hs ?hd
 case h0 => exact ⟨bI.refl _ _ _, (fun _ _ h => by cases h), (Below.refl _ _).drew⟩
 case hd =>
  intro L x wi ⟨hF, hfact, hbi⟩ hall
  obtain ⟨t, d⟩ := x
  obtain ⟨x0, x1, x2, x3, x4, x5, x6, x7, x8, x9, x10, x11, x12, x13, x14, x15, x16, x17, x18, x19, x20, x21, x22, x23, x24, x25, rfl⟩ := AE t hF.2.1
  obtain rfl : d = [] := hF.1
  have e21 : x21 = .bool (pB (oC T.data.toList) (tB H.data.toList)) := hfact 11 (by omega) (hall 11 (show 11 < 12 by omega))
  subst e21
  obtain rfl : x0 = .string b := Option.some.inj (hF.2.2 0 (by omega))
  obtain rfl : x1 = undef := Option.some.inj (hF.2.2 1 (by omega))
  obtain rfl : x2 = .string .empty := Option.some.inj (hF.2.2 2 (by omega))
  obtain rfl : x3 = .int .i64 0 := Option.some.inj (hF.2.2 3 (by omega))
  obtain rfl : x4 = .int .i64 k := Option.some.inj (hF.2.2 4 (by omega))
  obtain rfl : x5 = .string b := Option.some.inj (hF.2.2 5 (by omega))
  obtain rfl : x6 = .int .i64 b.size := Option.some.inj (hF.2.2 6 (by omega))
  obtain rfl : x7 = .int .i64 k := Option.some.inj (hF.2.2 7 (by omega))
  obtain rfl : x8 = .int .i64 k := Option.some.inj (hF.2.2 8 (by omega))
  obtain rfl : x9 = .bool (decide ((k : Int) < 0)) := Option.some.inj (hF.2.2 9 (by omega))
  obtain rfl : x22 = undef := Option.some.inj (hF.2.2 22 (by omega))
  obtain rfl : x23 = undef := Option.some.inj (hF.2.2 23 (by omega))
  obtain rfl : x24 = undef := Option.some.inj (hF.2.2 24 (by omega))
  obtain rfl : x25 = undef := Option.some.inj (hF.2.2 25 (by omega))
  clear hF hfact hall
  have HV := Lib.hid (Uj HKB.out HT.out HH.out)
  by_cases he : oC T.data.toList = tB H.data.toList
  ·have HE := Lib.hid he
   rw [Pj he]
   clear he
   have hx2 : b.extract 0 k = H := HH.out.symm
   go_wp2_with (go_at_call 97; refine (iK H _ (by have := HHs.out; omega)).mono ?_; rintro e w1 ⟨rfl, hb1⟩)
   go_ret2
   exact ⟨by rw [HV.out, if_pos HE.out]; rfl, hbi.trans (hb1.mono hbi.size)⟩
  ·have HE := Lib.hid he
   rw [Jy he]
   clear he
   go_wp2_with fail
   go_ret2
   exact ⟨by rw [HV.out, if_neg HE.out]; rfl, hbi⟩
 case hs =>
  intro L x wi i hI hi hL hw
  have hi : i < 12 := hi
  obtain ⟨hF, hfact, hbi⟩ := id hI
  rcases (show i = 0 \/ i = 1 \/ i = 2 \/ i = 3 \/ i = 4 \/ i = 5 \/ i = 6 \/ i = 7 \/ i = 8 \/ i = 9 \/ i = 10 \/ i = 11 by omega) with rfl | rfl | rfl | rfl | rfl | rfl | rfl | rfl | rfl | rfl | rfl | rfl
  ·have e0 : x.tmps[0]?.getD undef = .string b := hF.get 0 (by omega)
   have HK := Lib.hid (iF b H T k w (F := Hj b k) (L := L) (x := x) (w := wi) (w' := wi) rfl 0 (.string b) hI hi (by omega) (Below.refl _ _) rfl)
   clear hI hF hfact hbi hw hL hi
   refine aA (v := (.string b)) (w' := wi) rfl rfl ?_ HK.out
   go_simp
  ·have e4 : x.tmps[4]?.getD undef = .int .i64 k := hF.get 4 (by omega)
   have HK := Lib.hid (iF b H T k w (F := Hj b k) (L := L) (x := x) (w := wi) (w' := wi) rfl 1 (.int .i64 k) hI hi (by omega) (Below.refl _ _) rfl)
   clear hI hF hfact hbi hw hL hi
   refine aA (v := (.int .i64 k)) (w' := wi) rfl rfl ?_ HK.out
   go_simp
  ·have e1 : x.tmps[10]?.getD undef = .string b := (hfact 0 (by omega) (hw 0 (of_decide_eq_true (by kernel_rfl))))
   have e2 : x.tmps[11]?.getD undef = .int .i64 k := (hfact 1 (by omega) (hw 1 (of_decide_eq_true (by kernel_rfl))))
   have ex : b.extract k b.size = T := HT.out.symm
   have HK := Lib.hid (iF b H T k w (F := Hj b k) (L := L) (x := x) (w := wi) (w' := wi) rfl 2 (.string T) hI hi (by omega) (Below.refl _ _) rfl)
   clear hI hF hfact hbi hw hL hi
   refine aA (v := (.string T)) (w' := wi) rfl rfl ?_ HK.out
   go_simp
   intro hlt
   omega
  ·have e1 : x.tmps[12]?.getD undef = .string T := (hfact 2 (by omega) (hw 2 (of_decide_eq_true (by kernel_rfl))))
   have HC := Lib.hid ((Ck T wi (by have := HT4.out; omega)).mono (fun e w'' ⟨g, he, hg, h1, h2⟩ => show ∃ v, e = Ending.returned v /\ vF b H T k w (Hj b k) (fun j => if 3 = j then true else L j) (x.put (some (10 + 3)) v) w'' from
    ⟨_, he, iF b H T k w (F := Hj b k) rfl 3 _ hI hi (by omega) h2 (fun _ => ⟨g, rfl, Nat.le_trans hbi.size hg, h1⟩)⟩))
   clear hI hF hfact hbi hw hL hi
   refine aP rfl rfl ?_ HC.out
   go_simp
  ·obtain ⟨g, e1, hg0, hin⟩ : ∃ g, x.tmps[13]?.getD undef = .pointer (some ⟨g, 0, none⟩) /\ w.heap.size <= g /\ bP wi g ⟨T, 0⟩ := (hfact 3 (by omega) (hw 3 (of_decide_eq_true (by kernel_rfl)))) hL
   have HC := Lib.hid ((Vv g ⟨T, 0⟩ wi hin (by have := HT4.out; simp only []; omega)).mono (fun e w'' ⟨he, h1, h2⟩ => show ∃ v, e = Ending.returned v /\ vF b H T k w (Hj b k) (fun j => if 4 = j then true else L j) (x.put (some (10 + 4)) v) w'' from
    ⟨_, he.trans (by rw [Ui T HT4.out]), Xr b H T k w (F := Hj b k) rfl hI hin hg0 h2⟩))
   clear hI hF hfact hbi hw hL hi hin
   refine aP rfl rfl ?_ HC.out
   go_simp
  ·have e0 : x.tmps[0]?.getD undef = .string b := hF.get 0 (by omega)
   have HK := Lib.hid (iF b H T k w (F := Hj b k) (L := L) (x := x) (w := wi) (w' := wi) rfl 5 (.string b) hI hi (by omega) (Below.refl _ _) rfl)
   clear hI hF hfact hbi hw hL hi
   refine aA (v := (.string b)) (w' := wi) rfl rfl ?_ HK.out
   go_simp
  ·have e4 : x.tmps[4]?.getD undef = .int .i64 k := hF.get 4 (by omega)
   have HK := Lib.hid (iF b H T k w (F := Hj b k) (L := L) (x := x) (w := wi) (w' := wi) rfl 6 (.int .i64 k) hI hi (by omega) (Below.refl _ _) rfl)
   clear hI hF hfact hbi hw hL hi
   refine aA (v := (.int .i64 k)) (w' := wi) rfl rfl ?_ HK.out
   go_simp
  ·have e1 : x.tmps[15]?.getD undef = .string b := (hfact 5 (by omega) (hw 5 (of_decide_eq_true (by kernel_rfl))))
   have e2 : x.tmps[16]?.getD undef = .int .i64 k := (hfact 6 (by omega) (hw 6 (of_decide_eq_true (by kernel_rfl))))
   have ex : b.extract 0 k = H := HH.out.symm
   have HK := Lib.hid (iF b H T k w (F := Hj b k) (L := L) (x := x) (w := wi) (w' := wi) rfl 7 (.string H) hI hi (by omega) (Below.refl _ _) rfl)
   clear hI hF hfact hbi hw hL hi
   refine aA (v := (.string H)) (w' := wi) rfl rfl ?_ HK.out
   go_simp
   intro hlt
   omega
  ·have e1 : x.tmps[17]?.getD undef = .string H := (hfact 7 (by omega) (hw 7 (of_decide_eq_true (by kernel_rfl))))
   have HK := Lib.hid (iF b H T k w (F := Hj b k) (L := L) (x := x) (w := wi) (w' := wi.alloc (.cells #[.string H] 9)) rfl 8 (.slice (some ⟨wi.heap.size, 0, none⟩) 1 1) hI hi (by omega) ((Below.refl _ _).alloc (Nat.le_refl _) _) ⟨_, rfl, hbi.size, aG.new _ _ _⟩)
   clear hI hF hfact hbi hw hL hi
   refine aA (v := (.slice (some ⟨wi.heap.size, 0, none⟩) 1 1)) (w' := wi.alloc (.cells #[.string H] 9)) rfl rfl ?_ HK.out
   go_simp
  ·obtain ⟨g, e1, hg0, hin⟩ : ∃ g, x.tmps[18]?.getD undef = .slice (some ⟨g, 0, none⟩) 1 1 /\ w.heap.size <= g /\ aG wi g 9 #[.string H] := Gi b H T k w (hfact 8 (by omega) (hw 8 (of_decide_eq_true (by kernel_rfl))))
   have HC := Lib.hid ((Ty (some ⟨g, 0, none⟩) 1 1 [H] wi rfl (fun _ => ⟨g, 0, rfl, hin.lt, fun j y hy => by rw [hin.cell (0 + j)]; match j, hy with | 0, hy => (injection hy with hy; rw [<- hy]; rfl)⟩) (by simp) (fun y hy => by rw [List.mem_singleton.1 hy]; exact HHs.out)).mono (fun e w'' ⟨he, h2⟩ => show ∃ v, e = Ending.returned v /\ vF b H T k w (Hj b k) (fun j => if 9 = j then true else L j) (x.put (some (10 + 9)) v) w'' from
    ⟨_, he.trans (by rw [Gh]), by subst h2; exact iF b H T k w (F := Hj b k) rfl 9 _ hI hi (by omega) (Below.refl _ _) rfl⟩))
   clear hI hF hfact hbi hw hL hi hin
   refine aP rfl rfl ?_ HC.out
   go_simp
  ·have e1 : x.tmps[19]?.getD undef = .int .u32 (tB H.data.toList) := (hfact 9 (by omega) (hw 9 (of_decide_eq_true (by kernel_rfl))))
   have hcl := Jk H.data.toList
   have HK := Lib.hid (iF b H T k w (F := Hj b k) (L := L) (x := x) (w := wi) (w' := wi) rfl 10 (.int .i64 (tB H.data.toList)) hI hi (by omega) (Below.refl _ _) rfl)
   clear hI hF hfact hbi hw hL hi
   refine aA (v := (.int .i64 (tB H.data.toList))) (w' := wi) rfl rfl ?_ HK.out
   go_simp
   exact IntWalk.i64_in _ (by omega)
  ·have e1 : x.tmps[14]?.getD undef = .int .i64 (oC T.data.toList) := (hfact 4 (by omega) (hw 4 (of_decide_eq_true (by kernel_rfl))))
   have e2 : x.tmps[20]?.getD undef = .int .i64 (tB H.data.toList) := (hfact 10 (by omega) (hw 10 (of_decide_eq_true (by kernel_rfl))))
   have HK := Lib.hid (iF b H T k w (F := Hj b k) (L := L) (x := x) (w := wi) (w' := wi) rfl 11 (.bool (pB (oC T.data.toList) (tB H.data.toList))) hI hi (by omega) (Below.refl _ _) rfl)
   clear hI hF hfact hbi hw hL hi
   refine aA (v := (.bool (pB (oC T.data.toList) (tB H.data.toList)))) (w' := wi) rfl rfl ?_ HK.out
   go_simp
   rfl
theorem yQ (b : ByteArray) (w : World) (hb : b.size <= 140737488351232) :
  Calls Tryz.prog 113 #[.string b] w fun e w' => e = .returned (lW b.data.toList) /\ Below w.heap.size w w' := by
 by_cases h : b.size < 4
 ·exact (Jw b w h).mono fun e w' ⟨he, hw⟩ => ⟨he, hw ▸ Below.refl _ _⟩
 ·exact Xs b (b.size - 4) w (by omega) hb
set_option maxRecDepth 100000
set_option maxHeartbeats 4000000
theorem iT {P : Program} {fn : Func} {R : Ending -> World -> Prop} {a : Act} {w : World} {q r : Tmp} {ty : TypeId} {ad : Addr} {v u : Value} (h : fn.results = #[.cell q ty, .tmp r]) (hp : a.tmps.getD q undef = .pointer (some ad))
  (hl : (loadVar ty ad).run P w = .ok v w) (hu : a.tmps.getD r undef = u) (hd : a.defers = []) (hR : R (.returned (.tuple #[v, u])) w) : bodyPost P fn R .ret a w := by
 refine bodyPost_ret (v := .tuple #[v, u]) ?_ hd hR
 simp only [results, h]
 have hp' : a.tmps[q]?.getD undef = .pointer (some ad) := by simpa using hp
 have hu' : a.tmps[r]?.getD undef = u := by simpa using hu
 simp [hp', hu', asAddr, hl]
theorem gB {l : List UInt8} (p : UInt8 -> Bool) (x : UInt8) (hx : x ∈ l) (hp : p x = false) : x ∈ l.dropWhile p := by
 induction l with
 | nil => cases hx
 | cons y r ih =>
   rw [List.dropWhile_cons]
   split
   ·rename_i hy
    rcases List.mem_cons.1 hx with rfl | hx
    ·rw [hp] at hy; cases hy
    ·exact ih hx
   ·exact hx
theorem Ju {l : List UInt8} (hx : (7 : UInt8) ∈ l) : (Lib.trimB l 0).isEmpty = false := by
 unfold Lib.trimB Lib.trimLeftB Lib.trimRightB
 have h1 : (7 : UInt8) ∈ (l.reverse.dropWhile (· == 0)).reverse := by
  rw [List.mem_reverse]
  exact gB _ 7 (by rw [List.mem_reverse]; exact hx) (by decide)
 have h2 := gB (· == 0) 7 h1 (by decide)
 cases h : ((l.reverse.dropWhile (· == 0)).reverse.dropWhile (· == 0)) with
 | nil => rw [h] at h2; cases h2
 | cons _ _ => rfl
theorem Jv (h : HD) (hvb : h.validB = true) (w : World) :
  Calls Tryz.prog 136 #[.string (bs h.text)] w fun e w' => ∃ A c, e = .returned (.tuple #[h.val A c, .int .i64 0]) /\ h.At w' A c /\ Below w.heap.size w w' := by
 have hv := HD.valid_of hvb
 have hlay : ∀ (A : Option Addr) (c : Nat) (W : World), h.At W A c -> Calls Tryz.prog 177 #[h.val A c] W fun e w' => e = .returned (.tuple #[.string (bs h.text), .int .i64 0]) /\ Below W.heap.size W w' := fun A c W ha => by
  have := yC h A c W ha
  rwa [if_pos hvb] at this
 have hparse := Jt h hv
 obtain ⟨X, hX⟩ : ∃ X, X = bs h.text := ⟨_, rfl⟩
 have hXs : X.size = 256 := by rw [hX, dO, hv.text_len]
 obtain ⟨Y, hY⟩ : ∃ Y, Y = bs (gU 256 h.bytes) := ⟨_, rfl⟩
 have HOPEN : Hid (∀ W, Calls Tryz.prog 113 #[.string X] W fun e w' => e = .returned (.tuple #[.string Y, .int .i64 0]) /\ Below W.heap.size W w') := Lib.hid (fun W => by
  have h1 := yQ X W (by omega)
  have e : lW X.data.toList = .tuple #[.string Y, .int .i64 0] := by rw [hX, gA]; unfold lW; rw [HD.opened, hY]; rfl
  rwa [e] at h1)
 obtain ⟨Z, hZ⟩ : ∃ Z : ByteArray, Z = ⟨(Lib.trimB X.data.toList 0).toArray⟩ := ⟨_, rfl⟩
 have hZe : Z.toList.isEmpty = false := by
  rw [hZ, Lib.toList_data]
  show (Lib.trimB X.data.toList 0).isEmpty = false
  apply Ju
  rw [hX, gA]
  obtain ⟨r, hr⟩ := h.text_first
  rw [hr]
  simp
 have HTRIM : Hid (∀ W, Calls Tryz.prog 175 #[.string X, .string ⟨#[0]⟩] W fun e w' => e = .returned (.string Z) /\ Below W.heap.size W w') := Lib.hid (fun W => by
  refine (kX X 0 (by decide) W (by omega)).mono ?_
  rintro e w' ⟨rfl, hw | hw⟩
  ·exact ⟨by rw [hZ], hw ▸ Below.refl _ _⟩
  ·exact ⟨by rw [hZ], by rw [hw]; exact (Below.refl _ _).drew⟩)
 rw [<- hX] at hlay ⊢
 rw [<- hY] at hparse
 have HLAY := Lib.hid hlay
 have HPARSE := Lib.hid hparse
 have hXI : (X.size : Int) = 256 := by omega
 clear hvb hv hlay hparse hX hXs hY hZ
 go_enter Tryz.func136, Tryz.ntmps136
 go_wp2_with fail
 refine (HTRIM.out _).mono ?_
 rintro e w1 ⟨rfl, hb1⟩
 have HR1 : Hid (aG w1 w.heap.size 160 #[.int .i64 0, .bool false, .slice none 0 0]) := Lib.hid ((aG.new w _ _).below hb1 (by simp))
 have HB1 : Hid (Below w.heap.size w w1) := Lib.hid (((Below.refl _ _).alloc (Nat.le_refl _) _).trans (hb1.mono (by simp)))
 clear hb1
 go_wp2_with fail
 refine (HOPEN.out _).mono ?_
 rintro e w2 ⟨rfl, hb2⟩
 have HR2 : Hid (aG w2 w.heap.size 160 #[.int .i64 0, .bool false, .slice none 0 0]) := Lib.hid (HR1.out.below hb2 HR1.out.lt)
 have HB2 : Hid (Below w.heap.size w w2) := Lib.hid (HB1.out.trans (hb2.mono HB1.out.size))
 clear hb2 hZe
 go_wp2_with fail
 refine (HPARSE.out _).mono ?_
 rintro e w3 ⟨A, c, rfl, ha, hAb, hb3⟩
 have HAB : Hid (∀ b off, A = some ⟨b, off, none⟩ -> w.heap.size < b) := Lib.hid (fun b off e => by have := hAb b off e; have := HR2.out.lt; omega)
 have HR3 : Hid (aG w3 w.heap.size 160 #[.int .i64 0, .bool false, .slice none 0 0]) := Lib.hid (HR2.out.below hb3 HR2.out.lt)
 have HB3 : Hid (Below w.heap.size w w3) := Lib.hid (HB2.out.trans (hb3.mono HB2.out.size))
 have HAT := Lib.hid ha
 clear ha hAb hb3
 have HL := Lib.hid (fun W => HLAY.out A c W)
 obtain ⟨seq, full, ts⟩ := h
 unfold HD.val at HL ⊢
 simp only at HL ⊢
 obtain ⟨n, hn⟩ : ∃ n, n = ts.length := ⟨_, rfl⟩
 rw [<- hn] at HL ⊢
 have HN := Lib.hid hn
 clear hn HLAY HPARSE
 go_wp2_with fail
 have hal : (HD.mk seq full ts).At (w3.alloc (.cells #[.int .i64 seq, .bool full, .slice A n c] 160)) A c := HAT.out.below ((Below.refl _ _).alloc (Nat.le_refl _) _)
 refine (HL.out _ hal).mono ?_
 rintro e w4 ⟨rfl, hb4⟩
 have bh : aG w4 w3.heap.size 160 #[.int .i64 seq, .bool full, .slice A n c] := (aG.new w3 _ _).below hb4 (by simp)
 have br : aG w4 w.heap.size 160 #[.int .i64 0, .bool false, .slice none 0 0] := HR3.out.below (((Below.refl _ _).alloc (Nat.le_refl _) _).trans (hb4.mono (by simp))) HR3.out.lt
 have HBR := Lib.hid br
 have HB4 : Hid (Below w.heap.size w w4) := Lib.hid ((HB3.out.alloc HB3.out.size _).trans (hb4.mono (by have := HB3.out.size; simp; omega)))
 have HA4 := Lib.hid (hal.below hb4).lie
 have c0 := bh.cell 0
 have c1 := bh.cell 1
 have c2 := bh.cell 2
 have r0 := br.cell 0
 have r1 := br.cell 1
 have r2 := br.cell 2
 have f0 := br.frozen 0
 have f1 := br.frozen 1
 have f2 := br.frozen 2
 simp at c0 c1 c2 r0 r1 r2
 clear hb4 hal bh br
 go_wp2_with fail
 have b3 := ((HBR.out.put 0 (.int .i64 seq)).put 1 (.bool full)).put 2 (.slice A n c)
 refine iT rfl rfl (eY b3) rfl rfl ?_
 refine ⟨A, c, by rw [HN.out]; rfl, ⟨fun hp => ?_, HAT.out.few⟩, ((HB4.out.setCell (Nat.le_refl _) _).setCell (Nat.le_refl _) _).setCell (Nat.le_refl _) _⟩
 obtain ⟨b, off, e, hbl, hc⟩ := HA4.out hp
 have hne : b ≠ w.heap.size := fun eb => by have := HAB.out b off e; omega
 refine ⟨b, off, e, by simpa [World.setCell] using hbl, fun i x hx => ?_⟩
 rw [World.cell?_of_block (w := w4) ((Below.heap_setCell _ _ _ _ (fun e => hne e)).trans ((Below.heap_setCell _ _ _ _ (fun e => hne e)).trans (Below.heap_setCell _ _ _ _ (fun e => hne e))))]
 exact hc i x hx
set_option maxRecDepth 100000
set_option maxHeartbeats 4000000
theorem Ph {l : List UInt8} : (Lib.trimB l 0).isEmpty = l.all (· == 0) := by
 cases h : l.all (· == 0) with
 | true =>
   unfold Lib.trimB Lib.trimLeftB Lib.trimRightB
   have h1 : l.reverse.dropWhile (· == 0) = [] := by
    have hh : ∀ r : List UInt8, r.all (· == 0) = true -> r.dropWhile (· == 0) = [] := fun r => by
     induction r with
     | nil => intro _; rfl
     | cons x r ih =>
       intro h
       rw [List.all_cons, Bool.and_eq_true] at h
       rw [List.dropWhile_cons, if_pos h.1]
       exact ih h.2
    exact hh _ (by rw [List.all_reverse]; exact h)
   rw [h1]
   rfl
 | false =>
   obtain ⟨x, hx, hp⟩ : ∃ x ∈ l, (x == (0 : UInt8)) = false := by
    have h := h
    rw [List.all_eq_false] at h
    obtain ⟨x, hx, hp⟩ := h
    exact ⟨x, hx, by simpa using hp⟩
   unfold Lib.trimB Lib.trimLeftB Lib.trimRightB
   have h1 : x ∈ (l.reverse.dropWhile (· == 0)).reverse := by
    rw [List.mem_reverse]
    exact gB _ x (by rw [List.mem_reverse]; exact hx) hp
   have h2 := gB (· == 0) x h1 hp
   cases h : ((l.reverse.dropWhile (· == 0)).reverse.dropWhile (· == 0)) with
   | nil => rw [h] at h2; cases h2
   | cons _ _ => rfl
theorem sN {w : World} {base : Nat} {A : Option Addr} {c : Nat} {l : List Int} (h : w.ownsRow base 3 1 (.slice A l.length c) l.length (l.map (Value.int .i64))) : dZ w w.heap.size A l := fun hp => by
 obtain ⟨gv, cap, e, _, hlt2⟩ := h.form hp
 injection e with e1 _ e3
 subst e1 e3
 refine ⟨gv, 0, rfl, hlt2, fun i x hx => ?_⟩
 have hc := h.cells (g := gv) rfl i (.int .i64 x) (by rw [List.getElem?_map, hx]; rfl)
 rwa [fY] at hc
def HD.zero : HD := ⟨0, false, []⟩
def gK (b : List UInt8) : HD × Int :=
 if b.length ≠ 256 then (HD.zero, 5)
 else if b.all (· == 0) then (HD.zero, 0)
 else if (fJ b).2 ≠ 0 then (HD.zero, (fJ b).2)
 else if (iE (bs (fJ b).1)).validB = true /\ (iE (bs (fJ b).1)).text = b then (iE (bs (fJ b).1), 0) else (HD.zero, 6)
theorem Bu (X : ByteArray) (w : World) :
  Calls Tryz.prog 136 #[.string X] w fun e w' => ∃ A c, e = .returned (.tuple #[(gK X.data.toList).1.val A c, .int .i64 (gK X.data.toList).2]) /\ w'.ownsRow w.heap.size 3 1 (.slice A (gK X.data.toList).1.ts.length c) (gK X.data.toList).1.ts.length ((gK X.data.toList).1.ts.map (Value.int .i64)) /\ (gK X.data.toList).1.ts.length <= 110 /\ Below w.heap.size w w' := by
 have hlen : X.data.toList.length = X.size := (Lib.size_eq X).symm
 obtain ⟨Q, hQ⟩ : ∃ Q, Q = gK X.data.toList := ⟨_, rfl⟩
 rw [<- hQ]
 have R0 : aG (w.alloc (.cells #[.int .i64 0, .bool false, .slice none 0 0] 160)) w.heap.size 160 #[.int .i64 0, .bool false, .slice none 0 0] := aG.new w _ _
 have B0 : Below w.heap.size w (w.alloc (.cells #[.int .i64 0, .bool false, .slice none 0 0] 160)) := (Below.refl _ _).alloc (Nat.le_refl _) _
 by_cases h1 : X.size = 256
 ·have hXI : (X.size : Int) = 256 := by omega
  obtain ⟨Z, hZ⟩ : ∃ Z : ByteArray, Z = ⟨(Lib.trimB X.data.toList 0).toArray⟩ := ⟨_, rfl⟩
  have hZe : Z.toList.isEmpty = X.data.toList.all (· == 0) := by
   rw [hZ, Lib.toList_data]
   exact Ph
  have HTRIM : Hid (∀ W, Calls Tryz.prog 175 #[.string X, .string ⟨#[0]⟩] W fun e w' => e = .returned (.string Z) /\ Below W.heap.size W w') := Lib.hid (fun W => by
   refine (kX X 0 (by decide) W (by omega)).mono ?_
   rintro e w' ⟨rfl, hw | hw⟩
   ·exact ⟨by rw [hZ], hw ▸ Below.refl _ _⟩
   ·exact ⟨by rw [hZ], by rw [hw]; exact (Below.refl _ _).drew⟩)
  by_cases h2 : X.data.toList.all (· == 0) = true
  ·have E : Q = (HD.zero, 0) := by rw [hQ]; unfold gK; rw [if_neg (by omega), if_pos h2]
   subst E
   rw [h2] at hZe
   have HR0 := Lib.hid R0
   have HB0 := Lib.hid B0
   clear hQ hlen hZ h2 R0 B0
   go_enter Tryz.func136, Tryz.ntmps136
   go_wp2_with fail
   refine (HTRIM.out _).mono ?_
   rintro e w1 ⟨rfl, hb1⟩
   have HR1 := Lib.hid (HR0.out.below hb1 HR0.out.lt)
   have HB1 := Lib.hid (HB0.out.trans (hb1.mono HB0.out.size))
   clear hb1
   have r0 := HR1.out.cell 0
   have r1 := HR1.out.cell 1
   have r2 := HR1.out.cell 2
   have f0 := HR1.out.frozen 0
   have f1 := HR1.out.frozen 1
   have f2 := HR1.out.frozen 2
   simp at r0 r1 r2
   go_wp2_with fail
   have b3 := ((HR1.out.put 0 (.int .i64 0)).put 1 (.bool false)).put 2 (.slice none 0 0)
   refine iT rfl rfl (eY b3) rfl rfl ?_
   exact ⟨none, 0, rfl, World.ownsRow_nil _ _ _ _, by decide, ((HB1.out.setCell (Nat.le_refl _) _).setCell (Nat.le_refl _) _).setCell (Nat.le_refl _) _⟩
  ·have h2' : X.data.toList.all (· == 0) = false := by simpa using h2
   rw [h2'] at hZe
   obtain ⟨O, hO⟩ : ∃ O, O = fJ X.data.toList := ⟨_, rfl⟩
   obtain ⟨Y, hY⟩ : ∃ Y : ByteArray, Y = ⟨O.1.toArray⟩ := ⟨_, rfl⟩
   have HOPEN : Hid (∀ W, Calls Tryz.prog 113 #[.string X] W fun e w' => e = .returned (.tuple #[.string Y, .int .i64 O.2]) /\ Below W.heap.size W w') := Lib.hid (fun W => by
    have h1 := yQ X W (by omega)
    have e : lW X.data.toList = .tuple #[.string Y, .int .i64 O.2] := by unfold lW; rw [<- hO, hY]
    rwa [e] at h1)
   by_cases h3 : O.2 = 0
   ·obtain ⟨h, hh⟩ : ∃ h, h = iE (bs O.1) := ⟨_, rfl⟩
    have E : Q = if h.validB = true /\ h.text = X.data.toList then (h, 0) else (HD.zero, 6) := by rw [hQ]; unfold gK; rw [if_neg (by omega), if_neg h2, <- hO, if_neg (by omega), <- hh]
    have hYY : Y = bs O.1 := by rw [hY]; rfl
    have hYs : Y.size <= 1000000 := by
     rw [hYY, dO, hO]
     unfold fJ
     split
     ·simp
     ·split
      ·simp; omega
      ·simp
    have HPARSE : Hid (∀ W, Calls Tryz.prog 176 #[.string Y] W fun e w' => ∃ A c, e = .returned (h.val A c) /\ w'.ownsRow W.heap.size 3 1 (.slice A h.ts.length c) h.ts.length (h.ts.map (Value.int .i64)) /\ h.ts.length <= 110 /\ Below W.heap.size W w') := Lib.hid (fun W => by
     have := Js Y hYs W
     rwa [show iE Y = h by rw [hh, hYY]] at this)
    obtain ⟨L, hL⟩ : ∃ L : ByteArray × Int, L = if h.validB then (bs h.text, 0) else (⟨#[]⟩, 1) := ⟨_, rfl⟩
    have hlay : ∀ (A : Option Addr) (c : Nat) (W : World), h.At W A c -> Calls Tryz.prog 177 #[h.val A c] W fun e w' => e = .returned (.tuple #[.string L.1, .int .i64 L.2]) /\ Below W.heap.size W w' := fun A c W ha => by
     have := yC h A c W ha
     have e : (if h.validB then Value.tuple #[.string (bs h.text), .int .i64 0] else .tuple #[.string ⟨#[]⟩, .int .i64 1]) = .tuple #[.string L.1, .int .i64 L.2] := by rw [hL]; split <;> rfl
     rwa [e] at this
    have hcmp : ∀ ok : Bool, ok = decide (h.validB = true /\ h.text = X.data.toList) -> (L.1.toList == X.toList) = ok := fun ok hk => by
     rw [hk, hL]
     cases hv : h.validB with
     | true =>
       simp only [if_true, Lib.toList_data, gA, true_and]
       rw [Bool.eq_iff_iff]
       simp
     | false =>
       simp only [Bool.false_eq_true, if_false, false_and, decide_false, Lib.toList_data]
       refine beq_eq_false_iff_ne.2 (fun e => ?_)
       have := congrArg List.length e
       simp at this
       omega
    have HLAY := Lib.hid hlay
    by_cases h4 : h.validB = true /\ h.text = X.data.toList
    ·rw [if_pos h4] at E
     subst E
     have hc := hcmp true (decide_eq_true h4).symm
     simp only
     obtain ⟨seq, full, ts⟩ := h
     obtain ⟨n, hn⟩ : ∃ n, n = ts.length := ⟨_, rfl⟩
     unfold HD.val at HPARSE HLAY ⊢
     simp only at HPARSE HLAY ⊢
     rw [<- hn] at HPARSE HLAY ⊢
     have HN := Lib.hid hn
     have HR0 := Lib.hid R0
     have HB0 := Lib.hid B0
     clear hQ hlen hZ h2 R0 B0 h2' hO hY hYY hYs hh hL hlay hcmp h4 hn
     go_enter Tryz.func136, Tryz.ntmps136
     go_wp2_with fail
     refine (HTRIM.out _).mono ?_
     rintro e w1 ⟨rfl, hb1⟩
     have HR1 := Lib.hid (HR0.out.below hb1 HR0.out.lt)
     have HB1 := Lib.hid (HB0.out.trans (hb1.mono HB0.out.size))
     clear hb1
     go_wp2_with fail
     refine (HOPEN.out _).mono ?_
     rintro e w2 ⟨rfl, hb2⟩
     have HR2 := Lib.hid (HR1.out.below hb2 HR1.out.lt)
     have HB2 := Lib.hid (HB1.out.trans (hb2.mono HB1.out.size))
     clear hb2 hZe
     go_wp2_with fail
     refine (HPARSE.out _).mono ?_
     rintro e w3 ⟨A, c, rfl, hrw, hfew, hb3⟩
     have hr3 := HR2.out.below hb3 HR2.out.lt
     have HR3 := Lib.hid hr3
     have HB3 := Lib.hid (HB2.out.trans (hb3.mono HB2.out.size))
     have HLT : Hid (w.heap.size < w2.heap.size) := Lib.hid HR2.out.lt
     have HBW : Hid (w.heap.size <= w2.heap.size) := Lib.hid HB2.out.size
     have hat : (HD.mk seq full ts).At w3 A c := by
      have hh : w3.ownsRow w2.heap.size 3 1 (.slice A ts.length c) ts.length (ts.map (Value.int .i64)) := by rw [<- HN.out]; exact hrw
      exact ⟨sN hh, by show ts.length <= _; rw [<- HN.out]; omega⟩
     have HFEW := Lib.hid hfew
     have HAT := Lib.hid hat
     have HRW0 := Lib.hid hrw
     have HL := Lib.hid (fun W => HLAY.out A c W)
     clear hrw hfew hb3 hr3 hat HLAY HPARSE
     go_wp2_with fail
     have hal : (HD.mk seq full ts).At (w3.alloc (.cells #[.int .i64 seq, .bool full, .slice A n c] 160)) A c := HAT.out.below ((Below.refl _ _).alloc (Nat.le_refl _) _)
     refine (HL.out _ hal).mono ?_
     rintro e w4 ⟨rfl, hb4⟩
     have bh : aG w4 w3.heap.size 160 #[.int .i64 seq, .bool full, .slice A n c] := (aG.new w3 _ _).below hb4 (by simp)
     have br : aG w4 w.heap.size 160 #[.int .i64 0, .bool false, .slice none 0 0] := HR3.out.below (((Below.refl _ _).alloc (Nat.le_refl _) _).trans (hb4.mono (by simp))) HR3.out.lt
     have HBR := Lib.hid br
     have HB4 : Hid (Below w.heap.size w w4) := Lib.hid ((HB3.out.alloc HB3.out.size _).trans (hb4.mono (by have := HB3.out.size; simp; omega)))
     have HRW : Hid (w4.ownsRow w2.heap.size 3 1 (.slice A n c) n (ts.map (Value.int .i64))) := Lib.hid (cG HRW0.out (fun k e => by
      have hk := (HRW0.out.lt k e).2
      exact ((((Below.refl w3.heap.size w3).alloc (Nat.le_refl _) _).trans (hb4.mono (by simp))).block k hk)))
     have c0 := bh.cell 0
     have c1 := bh.cell 1
     have c2 := bh.cell 2
     have r0 := br.cell 0
     have r1 := br.cell 1
     have r2 := br.cell 2
     have f0 := br.frozen 0
     have f1 := br.frozen 1
     have f2 := br.frozen 2
     simp at c0 c1 c2 r0 r1 r2
     clear hb4 hal bh br
     go_wp2_with fail
     have b3 := ((HBR.out.put 0 (.int .i64 seq)).put 1 (.bool full)).put 2 (.slice A n c)
     refine iT rfl rfl (eY b3) rfl rfl ?_
     refine ⟨A, c, rfl, eG (cG HRW.out (fun q e => ?_)) HBW.out, HFEW.out, ((HB4.out.setCell (Nat.le_refl _) _).setCell (Nat.le_refl _) _).setCell (Nat.le_refl _) _⟩
     have hne : q ≠ w.heap.size := fun e2 => by have := (HRW.out.lt q e).1; have := HLT.out; omega
     exact (Below.heap_setCell _ _ _ _ (fun e => hne e)).trans ((Below.heap_setCell _ _ _ _ (fun e => hne e)).trans (Below.heap_setCell _ _ _ _ (fun e => hne e)))
    ·rw [if_neg h4] at E
     subst E
     have hc := hcmp false (decide_eq_false h4).symm
     simp only
     obtain ⟨seq, full, ts⟩ := h
     obtain ⟨n, hn⟩ : ∃ n, n = ts.length := ⟨_, rfl⟩
     unfold HD.val at HPARSE HLAY
     simp only at HPARSE HLAY
     rw [<- hn] at HPARSE HLAY
     have HN := Lib.hid hn
     have HR0 := Lib.hid R0
     have HB0 := Lib.hid B0
     clear hQ hlen hZ h2 R0 B0 h2' hO hY hYY hYs hh hL hlay hcmp h4 hn
     go_enter Tryz.func136, Tryz.ntmps136
     go_wp2_with fail
     refine (HTRIM.out _).mono ?_
     rintro e w1 ⟨rfl, hb1⟩
     have HR1 := Lib.hid (HR0.out.below hb1 HR0.out.lt)
     have HB1 := Lib.hid (HB0.out.trans (hb1.mono HB0.out.size))
     clear hb1
     go_wp2_with fail
     refine (HOPEN.out _).mono ?_
     rintro e w2 ⟨rfl, hb2⟩
     have HR2 := Lib.hid (HR1.out.below hb2 HR1.out.lt)
     have HB2 := Lib.hid (HB1.out.trans (hb2.mono HB1.out.size))
     clear hb2 hZe
     go_wp2_with fail
     refine (HPARSE.out _).mono ?_
     rintro e w3 ⟨A, c, rfl, hrw, hfew, hb3⟩
     have hr3 := HR2.out.below hb3 HR2.out.lt
     have HR3 := Lib.hid hr3
     have HB3 := Lib.hid (HB2.out.trans (hb3.mono HB2.out.size))
     have HLT : Hid (w.heap.size < w2.heap.size) := Lib.hid HR2.out.lt
     have HBW : Hid (w.heap.size <= w2.heap.size) := Lib.hid HB2.out.size
     have hat : (HD.mk seq full ts).At w3 A c := by
      have hh : w3.ownsRow w2.heap.size 3 1 (.slice A ts.length c) ts.length (ts.map (Value.int .i64)) := by rw [<- HN.out]; exact hrw
      exact ⟨sN hh, by show ts.length <= _; rw [<- HN.out]; omega⟩
     have HFEW := Lib.hid hfew
     have HAT := Lib.hid hat
     have HRW0 := Lib.hid hrw
     have HL := Lib.hid (fun W => HLAY.out A c W)
     clear hrw hfew hb3 hr3 hat HLAY HPARSE
     go_wp2_with fail
     have hal : (HD.mk seq full ts).At (w3.alloc (.cells #[.int .i64 seq, .bool full, .slice A n c] 160)) A c := HAT.out.below ((Below.refl _ _).alloc (Nat.le_refl _) _)
     refine (HL.out _ hal).mono ?_
     rintro e w4 ⟨rfl, hb4⟩
     have bh : aG w4 w3.heap.size 160 #[.int .i64 seq, .bool full, .slice A n c] := (aG.new w3 _ _).below hb4 (by simp)
     have br : aG w4 w.heap.size 160 #[.int .i64 0, .bool false, .slice none 0 0] := HR3.out.below (((Below.refl _ _).alloc (Nat.le_refl _) _).trans (hb4.mono (by simp))) HR3.out.lt
     have HBR := Lib.hid br
     have HB4 : Hid (Below w.heap.size w w4) := Lib.hid ((HB3.out.alloc HB3.out.size _).trans (hb4.mono (by have := HB3.out.size; simp; omega)))
     have HRW : Hid (w4.ownsRow w2.heap.size 3 1 (.slice A n c) n (ts.map (Value.int .i64))) := Lib.hid (cG HRW0.out (fun k e => by
      have hk := (HRW0.out.lt k e).2
      exact ((((Below.refl w3.heap.size w3).alloc (Nat.le_refl _) _).trans (hb4.mono (by simp))).block k hk)))
     have c0 := bh.cell 0
     have c1 := bh.cell 1
     have c2 := bh.cell 2
     have r0 := br.cell 0
     have r1 := br.cell 1
     have r2 := br.cell 2
     have f0 := br.frozen 0
     have f1 := br.frozen 1
     have f2 := br.frozen 2
     simp at c0 c1 c2 r0 r1 r2
     clear hb4 hal bh br
     go_wp2_with fail
     have b3 := ((HBR.out.put 0 (.int .i64 0)).put 1 (.bool false)).put 2 (.slice none 0 0)
     refine iT rfl rfl (eY b3) rfl rfl ?_
     exact ⟨none, 0, rfl, World.ownsRow_nil _ _ _ _, by decide, ((HB4.out.setCell (Nat.le_refl _) _).setCell (Nat.le_refl _) _).setCell (Nat.le_refl _) _⟩
   ·have E : Q = (HD.zero, O.2) := by rw [hQ]; unfold gK; rw [if_neg (by omega), if_neg h2, <- hO, if_pos h3]
    subst E
    obtain ⟨x, hx⟩ : ∃ x, x = O.2 := ⟨_, rfl⟩
    rw [<- hx] at HOPEN h3 ⊢
    have h3' : (x != 0) = true := by rw [bne_iff_ne]; exact h3
    have HR0 := Lib.hid R0
    have HB0 := Lib.hid B0
    clear hQ hlen hZ h2 R0 B0 h2' hO hY hx
    go_enter Tryz.func136, Tryz.ntmps136
    go_wp2_with fail
    refine (HTRIM.out _).mono ?_
    rintro e w1 ⟨rfl, hb1⟩
    have HR1 := Lib.hid (HR0.out.below hb1 HR0.out.lt)
    have HB1 := Lib.hid (HB0.out.trans (hb1.mono HB0.out.size))
    clear hb1
    go_wp2_with fail
    refine (HOPEN.out _).mono ?_
    rintro e w2 ⟨rfl, hb2⟩
    have HR2 := Lib.hid (HR1.out.below hb2 HR1.out.lt)
    have HB2 := Lib.hid (HB1.out.trans (hb2.mono HB1.out.size))
    clear hb2
    have r0 := HR2.out.cell 0
    have r1 := HR2.out.cell 1
    have r2 := HR2.out.cell 2
    have f0 := HR2.out.frozen 0
    have f1 := HR2.out.frozen 1
    have f2 := HR2.out.frozen 2
    simp at r0 r1 r2
    go_wp2_with fail
    have b3 := ((HR2.out.put 0 (.int .i64 0)).put 1 (.bool false)).put 2 (.slice none 0 0)
    refine iT rfl rfl (eY b3) rfl rfl ?_
    exact ⟨none, 0, rfl, World.ownsRow_nil _ _ _ _, by decide, ((HB2.out.setCell (Nat.le_refl _) _).setCell (Nat.le_refl _) _).setCell (Nat.le_refl _) _⟩
 ·have h1' : ¬ (X.size : Int) = 256 := by omega
  have h1b : ((X.size : Int) != 256) = true := by rw [bne_iff_ne]; exact h1'
  have E : Q = (HD.zero, 5) := by rw [hQ]; unfold gK; rw [if_pos (by omega)]
  subst E
  have HR0 := Lib.hid R0
  have HB0 := Lib.hid B0
  clear hQ hlen R0 B0
  have r0 := HR0.out.cell 0
  have r1 := HR0.out.cell 1
  have r2 := HR0.out.cell 2
  have f0 := HR0.out.frozen 0
  have f1 := HR0.out.frozen 1
  have f2 := HR0.out.frozen 2
  simp at r0 r1 r2
  go_enter Tryz.func136, Tryz.ntmps136
  go_wp2_with fail
  refine iT rfl rfl (eY HR0.out) rfl rfl ?_
  exact ⟨none, 0, rfl, World.ownsRow_nil _ _ _ _, by decide, HB0.out⟩
open Go
section
variable {P : Program} {ops : Array Oper} {J : World -> Prop}
def jW (P : Program) (ops : Array Oper) (J : World -> Prop) (o : Oper) (v : Value) (a : Act) : Prop :=
 (Region.wanted o (yielded ops a.tmps) = true /\ ∀ w, J w -> ((execOp a.eval o).run P w = .ok (.value v) w \/ ((execOp a.eval o).run P w = .ok .skip w /\ v = undef) \/ ∃ f args, (execOp a.eval o).run P w = .ok (.enter f args) w /\ Calls P f args w (fun e w' => e = .returned v /\ J w'))) \/
 (Region.wanted o (yielded ops a.tmps) = false /\ v = undef)
theorem jW.alike {o : Oper} {v : Value} {a b : Act} (h : jW P ops J o v a) (he : execOp b.eval o = execOp a.eval o) (hw : Region.wanted o (yielded ops b.tmps) = Region.wanted o (yielded ops a.tmps)) : jW P ops J o v b := by
 unfold jW at *
 rw [he, hw]
 exact h
theorem jW.wpOp {o : Oper} {v : Value} {a : Act} {i : Nat} {w : World} {K : Act -> World -> Prop} {Q : Exit -> Act -> World -> Prop} (hi : ops[i]? = some o) (h : jW P ops J o v a) (hJ : J w) (hK : ∀ w', J w' -> K (a.put o.dst v) w') : wpOp P ops Q i K a w := by
 unfold Go.wpOp
 simp only [hi]
 rcases h with ⟨hw, h⟩ | ⟨hw, rfl⟩
 ·rw [if_pos hw]
  refine .inl ?_
  unfold Oper.wp
  rcases h w hJ with hr | ⟨hr, rfl⟩ | ⟨f, args, hr, hc⟩
  ·rw [hr]; exact hK w hJ
  ·rw [hr]; exact hK w hJ
  ·rw [hr]
   exact hc.mono fun e w' ⟨he, hj⟩ => by subst he; exact hK w' hj
 ·rw [if_neg (by rw [hw]; decide)]
  exact hK w hJ
def pC (P : Program) (ops : Array Oper) (J : World -> Prop) (Q : Act -> Prop) : List Oper -> Act -> Prop
 | [], a => Q a
 | o :: rest, a => ∃ v, jW P ops J o v a /\ pC P ops J Q rest (a.put o.dst v)
def sQ (P : Program) (ops : Array Oper) (J : World -> Prop) (Q : Act -> Prop) : Nat -> Array Bool -> Act -> Prop
 | 0, listed, a => Region.ready .any ops listed = [] /\ Q a
 | n + 1, listed, a => (Region.ready .any ops listed = [] -> Q a) /\ ∀ i ∈ Region.ready .any ops listed, ∃ o v, ops[i]? = some o /\ jW P ops J o v a /\ sQ P ops J Q n (listed.setIfInBounds i true) (a.put o.dst v)
theorem qH {Q : Act -> Prop} {Q' : Exit -> Act -> World -> Prop} (hQ : ∀ a w, J w -> Q a -> Q' .normal a w) : ∀ (n : Nat) (listed : Array Bool) (a : Act) (w : World), J w -> sQ P ops J Q n listed a -> wpAny P .any ops Q' n listed a w
 | 0, _, _, _, hJ, h => ⟨h.1, hQ _ _ hJ h.2⟩
 | n + 1, _, _, _, hJ, h => ⟨fun h0 => hQ _ _ hJ (h.1 h0), fun i hi => by
     obtain ⟨o, v, ho, hl, hn⟩ := h.2 i hi
     exact hl.wpOp ho hJ fun w' hJ' => qH hQ n _ _ _ hJ' hn⟩
theorem zZ {Q : Act -> Prop} {i : Nat} {oi : Oper} {v : Value} (hi : ops[i]? = some oi) (hsel : ∀ (j : Nat) (o : Oper) cs b, ops[j]? = some o -> o.op ≠ .select cs b) :
  ∀ (n : Nat) (listed : Array Bool) (a : Act),
    (∀ j oj, ops[j]? = some oj -> j ≠ i -> listed.getD j true = false -> (∀ e ∈ oj.after, Region.binds .any e = true -> e.on ≠ i) -> oi.apart ops oj = true) ->
    i ∈ Region.ready .any ops listed -> jW P ops J oi v a -> sQ P ops J Q n (listed.setIfInBounds i true) (a.put oi.dst v) -> sQ P ops J Q (n + 1) listed a := by
 intro n
 induction n with
 | zero =>
   intro listed a _ hr hy H
   refine ⟨fun h => (by rw [h] at hr; cases hr), fun j hj => ?_⟩
   by_cases hji : j = i
   ·subst hji; exact ⟨oi, v, hi, hy, H⟩
   ·have := ready_mono hj hji
    rw [H.1] at this
    cases this
 | succ n ih =>
   intro listed a hfree hr hy H
   refine ⟨fun h => (by rw [h] at hr; cases hr), fun j hj => ?_⟩
   by_cases hji : j = i
   ·subst hji; exact ⟨oi, v, hi, hy, H⟩
   ·obtain ⟨oj, u, hoj, hyj, hn⟩ := H.2 j (ready_mono hj hji)
    obtain ⟨hjun, oj', hoj', hall⟩ := mem_ready.1 hj
    obtain rfl : oj' = oj := Option.some.inj (hoj'.symm.trans hoj)
    have hnot : ∀ e ∈ oj'.after, Region.binds .any e = true -> e.on ≠ i := fun e he hb heq => by
     have h1 := hall e he hb
     have h0 := (mem_ready.1 hr).1
     rw [heq] at h1
     rcases Nat.lt_or_ge i listed.size with h' | h'
     ·simp [h'] at h0 h1; rw [h0] at h1; cases h1
     ·simp [Array.getElem?_eq_none h'] at h1
    have hap := hfree j oj' hoj hji hjun hnot
    obtain ⟨p1, p2, p3⟩ := Oper.apart_spec hap
    have si := fun cs b => hsel i oi cs b hi
    have sj := fun cs b => hsel j oj' cs b hoj
    refine ⟨oj', u, hoj, hyj.alike (execOp_put oj' sj a oi.dst v p1).symm (wanted_put oj' a oi.dst v p1).symm, ih _ _ ?_ (ready_mono hr (Ne.symm hji)) (hy.alike (execOp_put oi si a oj'.dst u p3) (wanted_put oi a oj'.dst u p3)) ?_⟩
    ·intro k ok hk hki hun hno
     refine hfree k ok hk hki ?_ hno
     by_cases hjk : j = k
     ·subst hjk; exact hjun
     ·rw [getD_set_ne true hjk] at hun; exact hun
    ·rw [Array.setIfInBounds_comm _ _ hji, <- Act.put_comm a v u p2]
     exact hn
theorem vG {Q : Act -> Prop} (hs : Region.noSelect ops = true) : ∀ (l : List Oper) (k : Nat) (listed : Array Bool) (a : Act), (∀ j, l[j]? = ops[k + j]?) ->
  Region.lexFrom .any ops l.length k listed = true -> pC P ops J Q l a -> sQ P ops J Q l.length listed a
 | [], _, _, _, _, hB, h => ⟨by simpa [Region.lexFrom] using hB, h⟩
 | o :: l, k, listed, a, hl, hB, h => by
   have h0 : ops[k]? = some o := by simpa using (hl 0).symm
   simp only [List.length_cons, Region.lexFrom, Bool.and_eq_true] at hB
   obtain ⟨⟨hr, hf⟩, hB'⟩ := hB
   obtain ⟨v, hy, hK⟩ := h
   exact zZ h0 (Region.noSelect_spec hs) l.length listed a (Region.free_spec h0 hf) (by simpa using hr) hy
    (vG hs l (k + 1) _ _ (fun j => by have := hl (j + 1); simpa [Nat.add_assoc, Nat.add_comm 1 j] using this) hB' hK)
theorem cE {id : Nat} {Q : Exit -> Act -> World -> Prop} {a : Act} {w : World} {l : List Oper} (J : World -> Prop) (hm : P.follows .mixedOrders = true) (hB : Region.lexB .any l.toArray = true) (h0 : J w.drew)
  (h : pC P l.toArray J (fun a' => ∀ w', J w' -> Q .normal a' w') l a) : (Code.region id l.toArray true).wp P Q a w := by
 simp only [Region.lexB, Bool.and_eq_true] at hB
 have h1 := vG (Q := fun a' => ∀ w', J w' -> Q .normal a' w') hB.1 l 0 (Array.replicate l.toArray.size false) a (by simp) (by simpa using hB.2) h
 refine wp_region_any hm (qH (Q := fun a' => ∀ w', J w' -> Q .normal a' w') (fun a w hJ hq => hq w hJ) _ _ _ _ h0 ?_)
 simpa using h1
variable {Q : Act -> Prop} {o : Oper} {rest : List Oper} {a : Act}
theorem aE {a' : Act} (h : ∀ w, J w -> ∀ K : Act -> Prop, K a' -> if Region.wanted o (yielded ops a.tmps) then o.still P a w K else K (a.put o.dst undef))
  (hd : ∃ s, o.dst = some s /\ s < a.tmps.size) (hJ : ∃ w, J w) (hn : pC P ops J Q rest a') : pC P ops J Q (o :: rest) a := by
 obtain ⟨s, hs, hlt⟩ := hd
 obtain ⟨w0, hw0⟩ := hJ
 have inj : ∀ u v : Value, a.put o.dst u = a.put o.dst v -> u = v := by
  intro u v huv
  rw [hs] at huv
  have := congrArg (fun x : Act => x.tmps[s]?) huv
  simpa [Act.put, hlt] using this
 by_cases hw : Region.wanted o (yielded ops a.tmps) = true
 ·have key : ∀ w, J w -> ∃ u, ((execOp a.eval o).run P w = .ok (.value u) w \/ ((execOp a.eval o).run P w = .ok .skip w /\ u = undef) \/ ∃ f args, (execOp a.eval o).run P w = .ok (.enter f args) w /\ Calls P f args w (fun e w' => e = .returned u /\ J w')) /\ a' = a.put o.dst u := by
   intro w hj
   have := h w hj (fun b => b = a') rfl
   rw [if_pos hw] at this
   unfold Oper.still at this
   generalize (execOp a.eval o).run P w = r at this
   cases r with
   | ok n w' =>
     cases n <;> simp only [Oper.stillUpon] at this
     case value u => obtain ⟨rfl, h2⟩ := this; exact ⟨u, .inl rfl, h2.symm⟩
     case skip => obtain ⟨rfl, h2⟩ := this; exact ⟨undef, .inr (.inl ⟨rfl, rfl⟩), h2.symm⟩
     case enter f args =>
      obtain ⟨rfl, u, hc, h2⟩ := this
      exact ⟨u, .inr (.inr ⟨f, args, rfl, hc.mono fun e w'' ⟨he, hw'⟩ => ⟨he, by subst hw'; exact hj⟩⟩), h2.symm⟩
   | halt x w' => simp only [Oper.stillUpon] at this
  obtain ⟨v, _, hv⟩ := key w0 hw0
  refine ⟨v, .inl ⟨hw, fun w hj => ?_⟩, by rw [<- hv]; exact hn⟩
  obtain ⟨u, hu, hu2⟩ := key w hj
  obtain rfl := inj u v (hu2.symm.trans hv)
  exact hu
 ·have hw : Region.wanted o (yielded ops a.tmps) = false := by simpa using hw
  have := h w0 hw0 (fun b => b = a') rfl
  rw [if_neg (by rw [hw]; decide)] at this
  exact ⟨undef, .inr ⟨hw, rfl⟩, by rw [this]; exact hn⟩
theorem eI {f : FuncId} {args : Array Value} {v : Value} (hc : ∀ w, J w -> Calls P f args w (fun e w' => e = .returned v /\ J w')) (hw : Region.wanted o (yielded ops a.tmps) = true)
  (hr : ∀ w, J w -> (execOp a.eval o).run P w = .ok (.enter f args) w) (hn : pC P ops J Q rest (a.put o.dst v)) : pC P ops J Q (o :: rest) a :=
 ⟨v, .inl ⟨hw, fun w hj => .inr (.inr ⟨f, args, hr w hj, hc w hj⟩)⟩, hn⟩
theorem Uk (h : Q a) : pC P ops J Q [] a := h
end
end Go.Proofs.YtingkbeifohihaaGreatDoor
