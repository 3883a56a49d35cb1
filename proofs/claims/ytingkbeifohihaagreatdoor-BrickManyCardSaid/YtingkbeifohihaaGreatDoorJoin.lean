/-
  The library's strings.Join, laid at this dump: the shelf's theorems over any program, at the numbers of this one. No statement is proved here.
-/
import Derived.Test.YtingkbeifohihaaGreatDoorTwoWords
import Derived.Shelf.Strings.OnBuilder
import Derived.Test.YtingkbeifohihaaGreatDoorProg
namespace Go.Proofs.YtingkbeifohihaaGreatDoor
open Go.RowKit
set_option maxRecDepth 100000
set_option maxHeartbeats 1000000
theorem rX : dM.all (·.oneCell') = true := by decide +kernel
theorem Nc (w : World) :
  Calls Tryz.prog 181 #[] w fun e w' => e = .returned (.agg dM) /\ Below w.heap.size w w' := by
 obtain ⟨Z, hZ⟩ : ∃ Z, Z = (List.replicate 64 (Value.int .u32 0)).toArray := ⟨_, rfl⟩
 have hz : ∀ w, (zeroValue 236).run Tryz.prog w = .ok (.agg Z) w := fun w => by rw [hZ]; kernel_rfl
 have hZs : Z.size = 64 := by rw [hZ]; rfl
 obtain ⟨K, hK⟩ : ∃ K, K = dM := ⟨_, rfl⟩
 have hKs : K.size = 64 := by rw [hK]; rfl
 have hK1 : K.all (·.oneCell') = true := by rw [hK]; exact rX
 have hs : ∀ w, (sizeOf 236).run Tryz.prog w = .ok K.size w := fun w => by rw [hKs]; kernel_rfl
 have ha : ∀ w, (isAgg 236).run Tryz.prog w = .ok true w := fun w => by kernel_rfl
 clear hZ
 go_enter Tryz.func181, Tryz.ntmps181
 go_upto_region 1 with fail
 refine wp_region_lit ?_
 refine aK (v := .agg K) (w' := w.alloc (.cells Z 236)) rfl (by rw [hK]; kernel_rfl) ?_
 refine cL rfl rfl rfl rfl (cN (aG.new w _ Z) (hKs.trans hZs.symm) hK1 hs) ?_
 have hB : aG ((w.alloc (.cells Z 236)).setRow w.heap.size K) w.heap.size 236 K := bQ (aG.new w _ Z) K
 have hb : Below w.heap.size w ((w.alloc (.cells Z 236)).setRow w.heap.size K) := below_setRow ((Below.refl _ _).alloc (Nat.le_refl _) _) (Nat.le_refl _) _
 obtain ⟨W, hW⟩ : ∃ W, W = (w.alloc (.cells Z 236)).setRow w.heap.size K := ⟨_, rfl⟩
 rw [<- hW] at hB hb
 rw [<- hW]
 have HR := Lib.hid (aT (P := Tryz.prog) (off := 0) hB (fun j v h => by rw [Nat.zero_add]; exact h) ha hs)
 have HK := Lib.hid hK
 clear hz hs ha hW hB hK1 hK
 go_wp2_with fail
 refine dV rfl rfl HR.out rfl ⟨by rw [HK.out], hb⟩
set_option maxRecDepth 100000
set_option maxHeartbeats 8000000
def lN (m : List UInt8) (s : S8) : Nat -> S8
 | 0 => s
 | k + 1 => Eu (bN m k) (lN m s k)
theorem qP (m : List UInt8) (s : S8) (k : Nat) : lN m s (k + 1) = Eu (bN m k) (lN m s k) := rfl
theorem En (m : List UInt8) {s : S8} (h : s.ok) (k : Nat) : (lN m s k).ok := by
 cases k with
 | zero => exact h
 | succ k => exact Ev _ _
theorem Hx (m r : List UInt8) (k : Nat) (hm : m.length = 64 * k) (n : Nat) : hU (m ++ r) (k + n) = lN r (hU m k) n := by
 induction n with
 | zero => exact Nb m r k (by omega)
 | succ n ih =>
   rw [<- Nat.add_assoc, nD, ih, qP]
   refine qQ (fun t ht => ?_) _
   unfold bN
   rw [List.getD_eq_getElem?_getD, List.getD_eq_getElem?_getD, List.getElem?_append_right (by omega), show 64 * (k + n) + t - m.length = 64 * n + t by omega]
theorem Eo (m : List UInt8) (k : Nat) : hU m k = lN m S8.init k := by
 induction k with
 | zero => rfl
 | succ k ih => rw [nD, qP, ih]
theorem nC (w : World) (M X : ByteArray) (c : Nat) (h : c <= M.size) (hX : M.extract 0 c = X) :
  (Instr.slice 9 (.string M) none (some (.int .i64 (c : Int))) none).run Tryz.prog w = .ok (.string X) w := by
 simp [Instr.slice, Instr.sliceBounds, Instr.sliceBound, Sem.run_bind, run_underlying Tryz.underlying9, Result.andThen, asIntOf, h, hX]
theorem kN (w : World) (M X : ByteArray) (c : Nat) (h : c <= M.size) (hX : M.extract c M.size = X) :
  (Instr.slice 9 (.string M) (some (.int .i64 (c : Int))) none none).run Tryz.prog w = .ok (.string X) w := by
 simp [Instr.slice, Instr.sliceBounds, Instr.sliceBound, Sem.run_bind, run_underlying Tryz.underlying9, Result.andThen, asIntOf, h, hX]
theorem Mv (M : ByteArray) (t : Nat) (ht : t < 64) : (M.extract 0 64).data.toList.getD t 0 = M.data.toList.getD t 0 := by
 have := gX M 0 64 t ht
 simpa using this
theorem Ay (r : ByteArray) (k : Nat) : (r.extract k r.size).data.toList = r.data.toList.drop k := by
 rw [ByteArray.data_extract, Array.toList_extract, List.extract_eq_take_drop, List.take_of_length_le (by rw [List.length_drop, <- Lib.size_eq]; exact Nat.le_refl _)]
def Wj : Value -> Nat
 | .string b => b.size
 | _ => 0
def eM (w0 w : World) (gk : Nat) (H K Z : Array Value) : Prop :=
 aG w w0.heap.size 209 H /\ aG w (w0.heap.size + 1) 209 Z /\ aG w gk 236 K /\ Below w0.heap.size w0 w /\ w0.heap.size + 2 <= gk
theorem eM.lt {w0 w : World} {gk : Nat} {H K Z : Array Value} (h : eM w0 w gk H K Z) : gk < w.heap.size := h.2.2.1.lt
theorem eM.trans {w0 w w' : World} {gk : Nat} {H K Z : Array Value} (h : eM w0 w gk H K Z) (hb : Below w.heap.size w w') : eM w0 w' gk H K Z :=
 ⟨h.1.below hb h.1.lt, h.2.1.below hb h.2.1.lt, h.2.2.1.below hb h.2.2.1.lt, h.2.2.2.1.trans (hb.mono h.2.2.2.1.size), h.2.2.2.2⟩
theorem eM.drew {w0 w : World} {gk : Nat} {H K Z : Array Value} (h : eM w0 w gk H K Z) : eM w0 w.drew gk H K Z :=
 ⟨h.1, h.2.1, h.2.2.1, ⟨h.2.2.2.1.os, h.2.2.2.1.tape, h.2.2.2.1.output, h.2.2.2.1.size, h.2.2.2.1.block⟩, h.2.2.2.2⟩
theorem eM.alloc {w0 w : World} {gk : Nat} {H K Z : Array Value} (h : eM w0 w gk H K Z) (o : Obj) : eM w0 (w.alloc o) gk H K Z := h.trans ((Below.refl _ _).alloc (Nat.le_refl _) _)
theorem eM.row {w0 w : World} {gk g : Nat} {H K Z : Array Value} (h : eM w0 w gk H K Z) (hg : gk < g) (cs : Array Value) : eM w0 (w.setRow g cs) gk H K Z :=
 ⟨cK h.1 (by have := h.2.2.2.2; omega) cs, cK h.2.1 (by have := h.2.2.2.2; omega) cs, cK h.2.2.1 (by omega) cs, below_setRow h.2.2.2.1 (by have := h.2.2.2.2; omega) cs, h.2.2.2.2⟩
theorem eM.put {w0 w : World} {gk : Nat} {H K Z : Array Value} (h : eM w0 w gk H K Z) (i : Nat) (v : Value) : eM w0 (w.setCell ⟨w0.heap.size, i, none⟩ v) gk (H.setIfInBounds i v) K Z :=
 ⟨h.1.put i v, h.2.1.far (by simp) v, h.2.2.1.far (by have := h.2.2.2.2; simp; omega) v, h.2.2.2.1.setCell (by simp) v, h.2.2.2.2⟩
theorem xK (s : S8) (M : ByteArray) (q : Nat) (w : World) (hs : s.ok) (hM : M.size = 64 * q) (hq : q <= 100000) :
  Calls Tryz.prog 152 #[.agg (aM s), .string M] w fun e w' => e = .returned (.agg (aM (lN M.data.toList s q))) /\ Below w.heap.size w w' := by
 obtain ⟨IC, hIC⟩ : ∃ IC, IC = aM s := ⟨_, rfl⟩
 rw [<- hIC]
 have HIC := Lib.hid hIC
 clear hIC
 obtain ⟨K, hK⟩ : ∃ K, K = dM := ⟨_, rfl⟩
 have HC : Hid (∀ w, Calls Tryz.prog 181 #[] w fun e w' => e = .returned (.agg K) /\ Below w.heap.size w w') := Lib.hid (fun w => by rw [hK]; exact Nc w)
 have hKs : K.size = 64 := by rw [hK]; rfl
 have hK1 : K.all (·.oneCell') = true := by rw [hK]; exact rX
 have HKG : Hid (∀ i, i < 64 -> K[i]? = some (.int .u32 ((oI.getD i 0 : Nat) : Int))) := Lib.hid (fun i h => by rw [hK]; exact rT h)
 clear hK
 have hz : ∀ w, (zeroValue 236).run Tryz.prog w = .ok (.agg (mN [])) w := fun w => by rw [Ep]; kernel_rfl
 obtain ⟨Z, hZ⟩ : ∃ Z, Z = mN [] := ⟨_, rfl⟩
 rw [<- hZ] at hz
 have hZs : Z.size = 64 := by rw [hZ]; exact Az (by simp)
 clear hZ
 have HS64 : Hid (∀ w, (sizeOf 236).run Tryz.prog w = .ok 64 w) := Lib.hid (fun w => by kernel_rfl)
 have HS8 : Hid (∀ w, (sizeOf 209).run Tryz.prog w = .ok 8 w) := Lib.hid (fun w => by kernel_rfl)
 have HA8 : Hid (∀ w, (isAgg 209).run Tryz.prog w = .ok true w) := Lib.hid (fun w => by kernel_rfl)
 have HOK := Lib.hid hs
 have HM := Lib.hid hM
 have HZS := Lib.hid hZs
 have HKS := Lib.hid (And.intro hKs hK1)
 clear hs hM hZs hKs hK1
 go_enter Tryz.func152, Tryz.ntmps152
 go_upto_region 1 with fail
 obtain ⟨W, hW, b1, b2, hb, hWs⟩ := Ll w IC #[Value.int .u32 0, .int .u32 0, .int .u32 0, .int .u32 0, .int .u32 0, .int .u32 0, .int .u32 0, .int .u32 0] 209 209
 rw [<- hW]
 clear hW
 refine wp_region_lit ?_
 refine jB (f := 181) (args := #[]) rfl (by go_simp) ((HC.out W).mono ?_)
 rintro e1 w1 ⟨rfl, hb1⟩
 refine ⟨_, rfl, ?_⟩
 refine aK (v := .pointer (some ⟨w1.heap.size, 0, none⟩)) (w' := w1.alloc (.cells Z 236)) rfl (by go_simp) ?_
 refine cL rfl rfl rfl rfl (cN (aG.new w1 _ Z) (HKS.out.1.trans HZS.out.symm) HKS.out.2 (fun w => by rw [HKS.out.1]; exact HS64.out w)) ?_
 obtain ⟨gk, hgk⟩ : ∃ g, g = w1.heap.size := ⟨_, rfl⟩
 obtain ⟨Z8, hZ8⟩ : ∃ X, X = #[Value.int .u32 0, .int .u32 0, .int .u32 0, .int .u32 0, .int .u32 0, .int .u32 0, .int .u32 0, .int .u32 0] := ⟨_, rfl⟩
 rw [<- hZ8] at b2
 have HZ8 := Lib.hid hZ8
 have hs1 := hb1.size
 have HK0 : Hid (eM w ((w1.alloc (.cells Z 236)).setRow w1.heap.size K) gk IC K Z8) := Lib.hid (by
  rw [hgk]
  exact ⟨cK ((b1.below hb1 (by omega)).alloc _) (by omega) K, cK ((b2.below hb1 (by omega)).alloc _) (by omega) K, bQ (aG.new w1 _ Z) K, below_setRow ((hb.trans (hb1.mono (by omega))).alloc (by omega) _) (by omega) K, by omega⟩)
 rw [<- hgk]
 rw [<- hgk] at HK0
 obtain ⟨W2, hW2⟩ : ∃ W2, W2 = (w1.alloc (.cells Z 236)).setRow gk K := ⟨_, rfl⟩
 rw [<- hW2] at HK0
 rw [<- hW2]
 clear hW2 hgk hs1 hb1 b1 b2 hb hWs hZ8
 clear w1 W
 go_wp2_with fail
 simp only [Act.put, List.setIfInBounds_toArray, List.set_cons_succ, List.set_cons_zero]
 go_loopw [1] (fun v wr => ∃ (k : Nat) (r : ByteArray), k <= q /\ v = .string r /\ r.data.toList = M.data.toList.drop (64 * k) /\ eM w wr gk (aM (lN M.data.toList s k)) K Z8) (fun v _ => Wj v)
 case atStart => exact ⟨0, M, by omega, rfl, by simp, by rw [<- show IC = aM (lN M.data.toList s 0) from HIC.out]; exact HK0.out⟩
 case round =>
  obtain ⟨k, r, hk, rfl, hr, hkm⟩ := hrel
  have HKM := Lib.hid hkm
  have hrs : r.size = 64 * (q - k) := by
   have := congrArg List.length hr
   rw [List.length_drop, <- Lib.size_eq, <- Lib.size_eq, HM.out] at this
   omega
  have HR := Lib.hid hr
  have HRS := Lib.hid hrs
  clear hkm hr
  by_cases hlt : k < q
  ·have hrq : 64 <= r.size := by omega
   have hne : r.toList.isEmpty = false := by
    rw [Lib.toList_data, List.isEmpty_eq_false_iff]
    intro e
    have := congrArg List.length e
    rw [<- Lib.size_eq] at this
    have : r.size = 0 := this
    omega
   obtain ⟨X, hX⟩ : ∃ X, X = r.extract 0 64 := ⟨_, rfl⟩
   have hXs : X.size = 64 := by rw [hX, ByteArray.size_extract]; omega
   have hsl : ∀ w3, (Instr.slice 9 (.string r) none (some (.int .i64 64)) none).run Tryz.prog w3 = .ok (.string X) w3 := fun w3 => nC w3 r X 64 hrq hX.symm
   obtain ⟨r2, hr2⟩ : ∃ r2, r2 = r.extract 64 r.size := ⟨_, rfl⟩
   have hsl2 : ∀ w3, (Instr.slice 9 (.string r) (some (.int .i64 64)) none none).run Tryz.prog w3 = .ok (.string r2) w3 := fun w3 => kN w3 r r2 64 hrq hr2.symm
   have HR2 : Hid (r2.data.toList = M.data.toList.drop (64 * (k + 1)) /\ r2.size < r.size) := Lib.hid ⟨by rw [hr2, Ay, HR.out, List.drop_drop]; rfl, by rw [hr2, ByteArray.size_extract]; omega⟩
   obtain ⟨L, hL⟩ : ∃ L, L = bT (fun t => X.data.toList.getD t 0) 64 := ⟨_, rfl⟩
   have HLL : Hid (L.length = 64) := Lib.hid (by rw [hL]; exact cD _ _)
   obtain ⟨x0, hx0⟩ : ∃ x0, x0 = lN M.data.toList s k := ⟨_, rfl⟩
   have HX0 : Hid x0.ok := Lib.hid (by rw [hx0]; exact En _ HOK.out k)
   have HNX : Hid (lN M.data.toList s (k + 1) = x0.plus (iN L 64 x0)) := Lib.hid (by
    rw [qP, <- hx0, <- show Eu (fun t => X.data.toList.getD t 0) x0 = x0.plus (iN L 64 x0) by rw [hL]; rfl]
    refine qQ (fun t ht => ?_) _
    unfold bN
    rw [hX, Mv r t ht, HR.out, List.getD_eq_getElem?_getD, List.getD_eq_getElem?_getD, List.getElem?_drop])
   rw [<- hx0] at HKM
   obtain ⟨WC, hWC⟩ : ∃ WC, WC = (aF L).toArray := ⟨_, rfl⟩
   have HWD : Hid (∀ w, Calls Tryz.prog 182 #[.string X] w fun e w' => e = .returned (.agg WC) /\ Below w.heap.size w w') := Lib.hid (fun w => by rw [hWC, hL]; exact Hy X w hXs)
   have HWG : Hid (∀ i, i < 64 -> WC[i]? = some (.int .u32 ((L.getD i 0 : Nat) : Int))) := Lib.hid (fun i h => by rw [hWC]; exact iM (by rw [HLL.out]; exact h))
   have hWs : WC.size = 64 := by rw [hWC]; unfold aF; simp [HLL.out]
   have hW1 : WC.all (·.oneCell') = true := by rw [hWC]; unfold aF; simp [Value.oneCell']
   have HWS := Lib.hid (And.intro hWs hW1)
   have HSL2 := Lib.hid hsl2
   clear hX hXs hr2 hL hx0 hWC hWs hW1 hrs hrq hsl2
   go_upto_region 4 with fail
   refine wp_region_lit ?_
   refine aK (v := .string r) (w' := wr) rfl (by go_simp) ?_
   refine aK (v := .string X) (w' := wr) rfl (by go_simp) ?_
   refine jB (f := 182) (args := #[.string X]) rfl (by go_simp) ((HWD.out wr).mono ?_)
   rintro e1 w1 ⟨rfl, hb1⟩
   refine ⟨_, rfl, ?_⟩
   refine aK (v := .pointer (some ⟨w1.heap.size, 0, none⟩)) (w' := w1.alloc (.cells Z 236)) rfl (by go_simp) ?_
   refine cL rfl rfl rfl rfl (cN (aG.new w1 _ Z) (HWS.out.1.trans HZS.out.symm) HWS.out.2 (fun w => by rw [HWS.out.1]; exact HS64.out w)) ?_
   obtain ⟨gw, hgw⟩ : ∃ g, g = w1.heap.size := ⟨_, rfl⟩
   have hgkw : gk < gw := by rw [hgw]; exact (HKM.out.trans hb1).lt
   have HK1 : Hid (eM w ((w1.alloc (.cells Z 236)).setRow w1.heap.size WC) gk (aM x0) K Z8) := Lib.hid (by rw [hgw] at hgkw; exact ((HKM.out.trans hb1).alloc _).row hgkw WC)
   have HB1 : Hid (aG ((w1.alloc (.cells Z 236)).setRow w1.heap.size WC) gw 236 WC) := Lib.hid (by rw [hgw]; exact bQ (aG.new w1 _ Z) WC)
   rw [<- hgw] at HK1 HB1
   rw [<- hgw]
   obtain ⟨W3, hW3⟩ : ∃ W3, W3 = (w1.alloc (.cells Z 236)).setRow gw WC := ⟨_, rfl⟩
   rw [<- hW3] at HK1 HB1
   rw [<- hW3]
   clear hW3 hgw hb1 HKM hsl
   clear w1
   go_upto_region 5 with fail
   refine wp_region_lit ?_
   refine cZ rfl rfl rfl (eR HK1.out.1 HA8.out HS8.out) ?_
   refine aK (v := .pointer (some ⟨W3.heap.size, 0, none⟩)) (w' := W3.alloc (.cells Z8 209)) rfl (by rw [HZ8.out]; go_simp) ?_
   refine cL rfl rfl rfl rfl (cN (aG.new W3 _ Z8) (by rw [HZ8.out]; rfl) (by unfold aM aF; simp [Value.oneCell']) HS8.out) ?_
   obtain ⟨gg, hgg⟩ : ∃ g, g = W3.heap.size := ⟨_, rfl⟩
   have hgwg : gw < gg := by rw [hgg]; exact HB1.out.lt
   have HK2 : Hid (eM w ((W3.alloc (.cells Z8 209)).setRow W3.heap.size (aM x0)) gk (aM x0) K Z8) := Lib.hid (by rw [hgg] at hgwg; exact (HK1.out.alloc _).row (by omega) _)
   have HB2 : Hid (aG ((W3.alloc (.cells Z8 209)).setRow W3.heap.size (aM x0)) gw 236 WC) := Lib.hid (by rw [hgg] at hgwg; exact cK (HB1.out.alloc _) (by omega) _)
   have HG2 : Hid (aG ((W3.alloc (.cells Z8 209)).setRow W3.heap.size (aM x0)) gg 209 (aM x0)) := Lib.hid (by rw [hgg]; exact bQ (aG.new W3 _ Z8) _)
   rw [<- hgg] at HK2 HB2 HG2
   rw [<- hgg]
   obtain ⟨W4, hW4⟩ : ∃ W4, W4 = (W3.alloc (.cells Z8 209)).setRow gg (aM x0) := ⟨_, rfl⟩
   rw [<- hW4] at HK2 HB2 HG2
   rw [<- hW4]
   clear hW4 hgg HK1 HB1
   clear W3
   go_wp2_with fail
   go_loopw [19] (fun i w2 => ∃ (t : Nat) (x : S8), t <= 64 /\ i = .int .i64 (t : Int) /\ x = iN L t x0 /\ aG w2 gw 236 WC /\ aG w2 gg 209 (aM x) /\ eM w w2 gk (aM x0) K Z8) (fun i _ => 64 - (intOf i).toNat)
   case atStart => exact ⟨0, x0, by omega, rfl, rfl, HB2.out, HG2.out, HK2.out⟩
   case round =>
    clear HK2 HB2 HG2
    clear W4
    obtain ⟨t, x, ht, rfl, hx, hbw, hbg, hkm⟩ := hrel
    have HBW := Lib.hid hbw
    have HBG := Lib.hid hbg
    have HKM := Lib.hid hkm
    have HXX := Lib.hid hx
    have hok : x.ok := by rw [hx]; exact Bb L t HX0.out
    have HOX := Lib.hid hok
    clear hbw hbg hkm hx hok
    by_cases ht64 : t < 64
    ·have hck : wr.cell? ⟨gk, t, none⟩ = some (.int .u32 ((oI.getD t 0 : Nat) : Int)) := by rw [HKM.out.2.2.1.cell]; exact HKG.out t ht64
     have hcw : wr.cell? ⟨gw, t, none⟩ = some (.int .u32 ((L.getD t 0 : Nat) : Int)) := by rw [HBW.out.cell]; exact HWG.out t ht64
     have HN : Hid (iN L (t + 1) x0 = Ba (bB (oI.getD t 0) (L.getD t 0)) x) := Lib.hid (by rw [Hz, HXX.out]; rfl)
     obtain ⟨yk, hyk⟩ : ∃ y, y = oI.getD t 0 := ⟨_, rfl⟩
     obtain ⟨yw, hyw⟩ : ∃ y, y = L.getD t 0 := ⟨_, rfl⟩
     rw [<- hyk] at hck HN
     rw [<- hyw] at hcw HN
     obtain ⟨N, hN⟩ : ∃ N, N = bB yk yw := ⟨_, rfl⟩
     have hNI : IntKind.u32.wrap ((yk : Int) + (yw : Int)) = (N : Int) := by rw [hN, eD]; rfl
     rw [<- hN] at HN
     clear hyk hyw hN
     have htI : (t : Int) < 64 := by omega
     obtain ⟨NX, hNX⟩ : ∃ NX, NX = aM (Ba N x) := ⟨_, rfl⟩
     have hNs : NX.size = 8 := by rw [hNX]; rfl
     have hN1 : NX.all (·.oneCell') = true := by rw [hNX]; unfold aM aF; simp [Value.oneCell']
     have HT : Hid (∀ w, Calls Tryz.prog 183 #[.agg (aM x), .int .u32 (N : Int)] w fun e w' => e = .returned (.agg NX) /\ Below w.heap.size w w') := Lib.hid (fun w => by rw [hNX]; exact Ia x N w HOX.out)
     have HNX2 := Lib.hid hNX
     have HNS := Lib.hid (And.intro hNs hN1)
     clear hNX hNs hN1
     clear HXX
     obtain ⟨xa, xb, xc, xd, xe, xf, xg, xh⟩ := x
     have HT : Hid (∀ w, Calls Tryz.prog 183 #[.agg #[Value.int .u32 (xa : Int), Value.int .u32 (xb : Int), Value.int .u32 (xc : Int), Value.int .u32 (xd : Int), Value.int .u32 (xe : Int), Value.int .u32 (xf : Int), Value.int .u32 (xg : Int), Value.int .u32 (xh : Int)], .int .u32 (N : Int)] w fun e w' => e = .returned (.agg NX) /\ Below w.heap.size w w') := HT
     have c0 : wr.cell? ⟨gg, 0, none⟩ = some (.int .u32 (xa : Int)) := by rw [HBG.out.cell]; rfl
     have c1 : wr.cell? ⟨gg, 1, none⟩ = some (.int .u32 (xb : Int)) := by rw [HBG.out.cell]; rfl
     have c2 : wr.cell? ⟨gg, 2, none⟩ = some (.int .u32 (xc : Int)) := by rw [HBG.out.cell]; rfl
     have c3 : wr.cell? ⟨gg, 3, none⟩ = some (.int .u32 (xd : Int)) := by rw [HBG.out.cell]; rfl
     have c4 : wr.cell? ⟨gg, 4, none⟩ = some (.int .u32 (xe : Int)) := by rw [HBG.out.cell]; rfl
     have c5 : wr.cell? ⟨gg, 5, none⟩ = some (.int .u32 (xf : Int)) := by rw [HBG.out.cell]; rfl
     have c6 : wr.cell? ⟨gg, 6, none⟩ = some (.int .u32 (xg : Int)) := by rw [HBG.out.cell]; rfl
     have c7 : wr.cell? ⟨gg, 7, none⟩ = some (.int .u32 (xh : Int)) := by rw [HBG.out.cell]; rfl
     go_wp2_with fail
     go_still_tail 8, (by kernel_rfl)
     change wpList _ _ _ _ _ wr.drew
     clear c0 c1 c2 c3 c4 c5 c6 c7 hck hcw
     refine jB (f := 183) (args := #[.agg #[Value.int .u32 (xa : Int), Value.int .u32 (xb : Int), Value.int .u32 (xc : Int), Value.int .u32 (xd : Int), Value.int .u32 (xe : Int), Value.int .u32 (xf : Int), Value.int .u32 (xg : Int), Value.int .u32 (xh : Int)], .int .u32 (N : Int)]) rfl (by go_simp) ((HT.out wr.drew).mono ?_)
     rintro e1 w5 ⟨rfl, hbd⟩
     have hb5 : Below wr.heap.size wr w5 := ⟨hbd.os, hbd.tape, hbd.output, hbd.size, hbd.block⟩
     refine ⟨_, rfl, ?_⟩
     refine cL rfl rfl rfl rfl (cN (HBG.out.below hb5 HBG.out.lt) (by rw [HNS.out.1]; rfl) HNS.out.2 (fun w => by rw [HNS.out.1]; exact HS8.out w)) ?_
     have HK5 : Hid (eM w (w5.setRow gg NX) gk (aM x0) K Z8) := Lib.hid ((HKM.out.trans hb5).row (by omega) NX)
     have HB5 : Hid (aG (w5.setRow gg NX) gw 236 WC) := Lib.hid (cK (HBW.out.below hb5 HBW.out.lt) (by omega) NX)
     have HG5 : Hid (aG (w5.setRow gg NX) gg 209 NX) := Lib.hid (bQ (HBG.out.below hb5 HBG.out.lt) NX)
     obtain ⟨W6, hW6⟩ : ∃ W6, W6 = w5.setRow gg NX := ⟨_, rfl⟩
     rw [<- hW6] at HK5 HB5 HG5
     rw [<- hW6]
     clear hW6 hb5 hbd HBG HBW HKM HT hNI
     clear w5
     go_wp2_with fail
     go_roundw
     case rel => exact ⟨t + 1, iN L (t + 1) x0, by omega, by go_num, rfl, HB5.out, by rw [HN.out, <- HNX2.out]; exact HG5.out, HK5.out⟩
     case measure => simp [intOf] <;> omega
    ·obtain rfl : t = 64 := by omega
     have HKU : Hid (eM w wr gk (gZ x0 x 0) K Z8) := Lib.hid (by rw [rR]; exact HKM.out)
     clear HKM HBW
     go_wp2_with fail
     go_loopw [32] (fun i w4 => ∃ n : Nat, n <= 8 /\ i = .int .i64 (n : Int) /\ aG w4 gg 209 (aM x) /\ eM w w4 gk (gZ x0 x n) K Z8) (fun i _ => 8 - (intOf i).toNat)
     case atStart => exact ⟨0, by omega, rfl, HBG.out, HKU.out⟩
     case round =>
      clear HKU HBG
      obtain ⟨n, hn, rfl, hbg, hku⟩ := hrel
      have HBG := Lib.hid hbg
      have HKU := Lib.hid hku
      clear hbg hku
      by_cases hn8 : n < 8
      ·have r1 : wr.cell? ⟨w.heap.size, n, none⟩ = some (.int .u32 ((x0.words.getD n 0 : Nat) : Int)) := by rw [HKU.out.1.cell]; exact uI x0 x hn8
       have r2 : wr.cell? ⟨gg, n, none⟩ = some (.int .u32 ((x.words.getD n 0 : Nat) : Int)) := by rw [HBG.out.cell]; exact Cr x hn8
       have fz := HKU.out.1.frozen n
       have hnI : (n : Int) < 8 := by omega
       have HUS := Lib.hid (uJ x0 x hn8)
       obtain ⟨y0, hy0⟩ : ∃ y, y = x0.words.getD n 0 := ⟨_, rfl⟩
       obtain ⟨y1, hy1⟩ : ∃ y, y = x.words.getD n 0 := ⟨_, rfl⟩
       rw [<- hy0] at r1 HUS
       rw [<- hy1] at r2 HUS
       clear hy0 hy1
       go_wp2_with fail
       go_still_tail 8, (by kernel_rfl)
       change wpList _ _ _ _ _ wr.drew
       go_wp2_with fail
       clear r1 r2 fz
       refine ⟨?_, ?measure⟩
       ·have he : ((y0 : Int) + (y1 : Int)) % 4294967296 = ((bB y0 y1 : Nat) : Int) := (eD y0 y1).symm
        have hkp : eM w (wr.drew.setCell ⟨w.heap.size, n, none⟩ (.int .u32 ((bB y0 y1 : Nat) : Int))) gk (gZ x0 x (n + 1)) K Z8 := by
         rw [<- HUS.out]
         exact HKU.out.drew.put n _
        have hbb : aG (wr.drew.setCell ⟨w.heap.size, n, none⟩ (.int .u32 ((bB y0 y1 : Nat) : Int))) gg 209 (aM x) := HBG.out.drew.far (by have := HKU.out.2.2.2.2; simp; omega) _
        rw [he]
        repeat (apply Exists.intro)
        refine ⟨?_, rfl⟩
        exact ⟨n + 1, by omega, by go_num, hbb, hkp⟩
       case measure => simp [intOf] <;> omega
      ·obtain rfl : n = 8 := by omega
       rw [uH, HXX.out, <- HNX.out] at HKU
       have hsl2 := HSL2.out
       go_wp2_with fail
       refine ⟨?_, ?measure⟩
       ·refine ⟨k + 1, r2, by omega, rfl, HR2.out.1, HKU.out⟩
       case measure => exact HR2.out.2
  ·obtain rfl : k = q := by omega
   obtain rfl : r = .empty := by apply ByteArray.ext; exact Array.eq_empty_of_size_eq_zero (by show r.size = 0; omega)
   obtain ⟨RC, hRC⟩ : ∃ RC, RC = aM (lN M.data.toList s k) := ⟨_, rfl⟩
   rw [<- hRC] at HKM
   have hRs : RC.size = 8 := by rw [hRC]; rfl
   have hR1 : RC.all (·.oneCell') = true := by rw [hRC]; unfold aM aF; simp [Value.oneCell']
   have HL := Lib.hid (eR (P := Tryz.prog) HKM.out.1 HA8.out (fun w => by rw [hRs]; exact HS8.out w))
   have HST := Lib.hid (cN (P := Tryz.prog) (cs := RC) HKM.out.2.1 (by rw [hRs, HZ8.out]; rfl) hR1 (fun w => by rw [hRs]; exact HS8.out w))
   have HRT := Lib.hid (aT (P := Tryz.prog) (off := 0) (bQ HKM.out.2.1 RC) (fun j v h => by rw [Nat.zero_add]; exact h) HA8.out (fun w => by rw [hRs]; exact HS8.out w))
   have HRC := Lib.hid hRC
   clear hRs hR1 hRC hz hrs
   go_upto_region 16 with fail
   refine wp_region_lit ?_
   refine cZ rfl rfl rfl HL.out ?_
   refine cL rfl rfl rfl rfl HST.out ?_
   clear HL HST
   go_wp2_with fail
   refine dV rfl rfl HRT.out rfl ⟨by rw [HRC.out], ?_⟩
   exact below_setRow HKM.out.2.2.2.1 (by omega) _
set_option maxRecDepth 100000
set_option maxHeartbeats 2000000
theorem Fa (w : World) (SC : Array Value) {j : Nat} {y : Int} (hj : j < 8) (h : SC[j]? = some (.int .u32 y)) : (Instr.index 209 (.agg SC) (.int .i64 (j : Int))).run Tryz.prog w = .ok (.int .u32 y) w := by
 have hu : Tryz.prog.underlying 209 = some (.array 8 132) := by kernel_rfl
 have ha : ∀ w, (isAgg 132).run Tryz.prog w = .ok false w := fun w => by kernel_rfl
 have hs : ∀ w, (sizeOf 132).run Tryz.prog w = .ok 1 w := fun w => by kernel_rfl
 have hjI : (j : Int) < 8 := by omega
 simp [Instr.index, asIntOf, Sem.run_bind, run_underlying hu, Result.andThen, hs, part, ha, h, hj]
theorem Fb (l : List UInt8) (y : Nat) : Lib.byteCells l ++ [Value.int .u8 ((y : Int) / 16777216 % 256), .int .u8 ((y : Int) / 65536 % 256), .int .u8 ((y : Int) / 256 % 256), .int .u8 ((y : Int) % 256)] = Lib.byteCells (l ++ aX y 4) := by
 have e3 := fS y (8 * 3)
 have e2 := fS y (8 * 2)
 have e1 := fS y (8 * 1)
 have e0 := fS y (8 * 0)
 rw [show (2 : Int) ^ (8 * 3) = 16777216 from rfl] at e3
 rw [show (2 : Int) ^ (8 * 2) = 65536 from rfl] at e2
 rw [show (2 : Int) ^ (8 * 1) = 256 from rfl] at e1
 rw [show (2 : Int) ^ (8 * 0) = 1 from rfl, Int.ediv_one] at e0
 rw [e3, e2, e1, e0]
 simp [Lib.byteCells, aX]
theorem Nd (s : S8) (w : World) :
  Calls Tryz.prog 153 #[.agg (aM s)] w fun e w' => e = .returned (.string ⟨s.text.toArray⟩) /\ Below w.heap.size w w' := by
 obtain ⟨i0, hi, hz0, hz1, hz2⟩ := info_parts iL
 obtain ⟨SC, hSC⟩ : ∃ SC, SC = aM s := ⟨_, rfl⟩
 rw [<- hSC]
 have HSC := Lib.hid hSC
 have hs : ∀ w, (sizeOf 209).run Tryz.prog w = .ok SC.size w := fun w => by rw [hSC, show (aM s).size = 8 from rfl]; kernel_rfl
 have ha : ∀ w, (isAgg 209).run Tryz.prog w = .ok true w := fun w => by kernel_rfl
 clear hSC
 have HA1 : Hid (aG (w.alloc (.cells SC 209)) w.heap.size 209 SC) := Lib.hid (aG.new w _ SC)
 have HB1 : Hid (Below w.heap.size w (w.alloc (.cells SC 209))) := Lib.hid ((Below.refl _ _).alloc (Nat.le_refl _) _)
 go_enter Tryz.func153, Tryz.ntmps153
 go_upto_region 1 with fail
 obtain ⟨W, hW⟩ : ∃ W, W = w.alloc (.cells SC 209) := ⟨_, rfl⟩
 rw [<- hW] at HA1 HB1
 rw [<- hW]
 have hWs : w.heap.size <= W.heap.size := HB1.out.size
 clear hW
 obtain ⟨w1, hmk, hown, hbw⟩ := run_make_own (P := Tryz.prog) (w := W) w.heap.size 79 5 i0 (.int .u8 0) 1 Tryz.underlying79 hi hz0 hz1 .i64 .i64 32 (by rw [hz2]; omega) (by unfold maxLen; omega) hWs
 have hmk : (Instr.makeSlice 79 (.int .i64 0) (.int .i64 32)).run Tryz.prog W = .ok (.slice (some ⟨W.heap.size, 0, none⟩) 0 32) w1 := hmk
 have HL : Hid ((Instr.loadAt 209 (.pointer (some ⟨w.heap.size, 0, none⟩))).run Tryz.prog w1 = .ok (.agg SC) w1) := Lib.hid (eR (HA1.out.grown hbw (by simp)) ha hs)
 have HOWN := Lib.hid hown
 have HB : Hid (Below w.heap.size w w1) := Lib.hid (HB1.out.trans ((fH hbw).mono hWs))
 clear hown hbw hs ha HA1 HB1
 go_upto_region 2 with fail
 refine wp_region_lit ?_
 refine cZ rfl rfl rfl HL.out ?_
 go_wp2_with fail
 clear hmk
 go_loopw [3, 8] (fun b i wr => ∃ j : Nat, j <= 8 /\ i = .int .i64 j /\ wr.ownsRow w.heap.size 5 1 b (4 * j) (Lib.byteCells ((s.words.take j).flatMap fun x => aX x 4)) /\ Below w.heap.size w wr) (fun _ i _ => 8 - (intOf i).toNat)
 case atStart => exact ⟨0, by omega, rfl, HOWN.out, HB.out⟩
 case round =>
  obtain ⟨j, hj, rfl, hown, hbr⟩ := hrel
  have HOW := Lib.hid hown
  clear hown
  by_cases hlt : j < 8
  ·obtain ⟨y, hy⟩ : ∃ y, y = s.words.getD j 0 := ⟨_, rfl⟩
   have hyj : SC[j]? = some (.int .u32 (y : Int)) := by rw [HSC.out, hy]; exact Cr s hlt
   have hw5 : s.words[j]? = some y := by rw [hy]; exact uK s hlt
   have hltI : (j : Int) < 8 := by omega
   have HT : Hid ((s.words.take (j + 1)).flatMap (fun x => aX x 4) = (s.words.take j).flatMap (fun x => aX x 4) ++ aX y 4) := Lib.hid (by rw [List.take_add_one, hw5]; simp)
   have HLL := Lib.hid (show (Lib.byteCells ((s.words.take j).flatMap fun x => aX x 4)).length = 4 * j by rw [iW]; exact rS s hlt)
   have hix := Fa wr SC hlt hyj
   obtain ⟨l, hl⟩ : ∃ l, l = (s.words.take j).flatMap fun x => aX x 4 := ⟨_, rfl⟩
   rw [<- hl] at HT HOW
   clear hy hw5 hl hyj
   go_wp2_with (at_builtin; refine wpList_append_lies _ rfl (.tmp 11) (.tmp 23) 79 rfl w.heap.size 5 i0 (.int .u8 0) 1 1 Tryz.underlying79 hi hz0 hz1 hz2 rfl (by omega) _ (4 * j) _ rfl (HOW.out.alloc _) ⟨wr.heap.size, 0, none⟩ 4 4 [.int .u8 ((y : Int) / 16777216 % 256), .int .u8 ((y : Int) / 65536 % 256), .int .u8 ((y : Int) / 256 % 256), .int .u8 ((y : Int) % 256)] rfl rfl ?c1 ?c2 (by omega) (by unfold maxLen; omega) (by omega) (by have := hbr.size; simp; omega) _ rfl ?_)
   case c1 =>
    intro a u ha
    match a, ha with
    | 0, ha => simp at ha; subst ha; simp [Addr.add]
    | 1, ha => simp at ha; subst ha; simp [Addr.add]
    | 2, ha => simp at ha; subst ha; simp [Addr.add]
    | 3, ha => simp at ha; subst ha; simp [Addr.add]
   case c2 =>
    intro u hu
    simp only [List.mem_cons, List.not_mem_nil, or_false] at hu
    rcases hu with rfl | rfl | rfl | rfl <;> rfl
   intro g' cap w2 hown1 hg1 hor hlt1
   have hb1 : Below w.heap.size w w2 := (hbr.alloc hbr.size _).grown hg1 (by have := hbr.size; simp; omega) (fun k hk => (HOW.out.lt k hk).1)
   have HB1 := Lib.hid hb1
   rw [Fb, <- HT.out] at hown1
   have HOW2 := Lib.hid hown1
   clear hown1 hg1 hor hb1 hbr hix
   go_wp2
   go_roundw
   case rel => exact ⟨j + 1, by omega, by go_num, by rw [show 4 * (j + 1) = 4 * j + 4 by omega]; exact HOW2.out, HB1.out⟩
   case measure => simp [intOf] <;> omega
  ·obtain rfl : j = 8 := by omega
   have HOW3 := HOW.out
   rw [show s.words.take 8 = s.words from rfl, show (s.words.flatMap fun x => aX x 4) = s.text from rfl] at HOW3
   obtain ⟨g', cap, rfl, hg0, hlt1⟩ := HOW3.form (by omega)
   have hcv := rN wr _ g' cap _ (4 * 8) (rV s) HOW3
   clear HOW3
   go_wp2
   go_ret
   exact ⟨rfl, hbr⟩
open Go.Shelf
def uL : Go.Shelf.Ren := ⟨fun | 156 => 29 | 165 => 58 | 166 => 34 | 169 => 35 | 240 => 70 | 241 => 100 | 276 => 119 | 277 => 148 | n => n, fun | 31 => 22 | 9 => 9 | 3 => 3 | 4 => 4 | 0 => 0 | 20 => 20 | 72 => 81 | 76 => 86 | 70 => 78 | 37 => 79 | 75 => 85 | 127 => 131 | 164 => 174 | 5 => 5 | 80 => 88 | n => n, fun | n => n⟩
theorem Lm : Go.Proofs.Lays.n156 Tryz.prog uL := {
 mixed := by kernel_rfl
 f156 := Tryz.func29.trans (congrArg some (by kernel_rfl))
 f165 := Tryz.func58.trans (congrArg some (by kernel_rfl))
 f166 := Tryz.func34.trans (congrArg some (by kernel_rfl))
 f169 := Tryz.func35.trans (congrArg some (by kernel_rfl))
 f240 := Tryz.func70.trans (congrArg some (by kernel_rfl))
 f241 := Tryz.func100.trans (congrArg some (by kernel_rfl))
 f276 := Tryz.func119.trans (congrArg some (by kernel_rfl))
 f277 := Tryz.func148.trans (congrArg some (by kernel_rfl))
 t0 := Tryz.underlying0
 a0 := Tryz.isAgg0
 z0 := Tryz.sizeOf0
 v0 := Tryz.zeroValue0
 t3 := Tryz.underlying3
 a3 := Tryz.isAgg3
 z3 := Tryz.sizeOf3
 v3 := Tryz.zeroValue3
 t4 := Tryz.underlying4
 a4 := Tryz.isAgg4
 z4 := Tryz.sizeOf4
 v4 := Tryz.zeroValue4
 t9 := Tryz.underlying9
 a9 := Tryz.isAgg9
 z9 := Tryz.sizeOf9
 v9 := Tryz.zeroValue9
 t20 := Tryz.underlying20
 a20 := Tryz.isAgg20
 z20 := Tryz.sizeOf20
 v20 := Tryz.zeroValue20
 t31 := Tryz.underlying22
 a31 := Tryz.isAgg22
 z31 := Tryz.sizeOf22
 v31 := Tryz.zeroValue22
 t37 := Tryz.underlying79
 a37 := Tryz.isAgg79
 z37 := Tryz.sizeOf79
 v37 := Tryz.zeroValue79
 t70 := Tryz.underlying78
 a70 := Tryz.isAgg78
 z70 := Tryz.sizeOf78
 v70 := Tryz.zeroValue78
 t72 := Tryz.underlying81
 a72 := Tryz.isAgg81
 z72 := Tryz.sizeOf81
 v72 := Tryz.zeroValue81
 t75 := Tryz.underlying85
 a75 := Tryz.isAgg85
 z75 := Tryz.sizeOf85
 v75 := Tryz.zeroValue85
 t76 := Tryz.underlying86
 a76 := Tryz.isAgg86
 z76 := Tryz.sizeOf86
 v76 := Tryz.zeroValue86
 t127 := Tryz.underlying131
 a127 := Tryz.isAgg131
 z127 := Tryz.sizeOf131
 v127 := Tryz.zeroValue131
 t164 := Tryz.underlying174
 a164 := Tryz.isAgg174
 z164 := Tryz.sizeOf174
 v164 := Tryz.zeroValue174 }
theorem qC : Builder.Extra Tryz.prog uL := {
 sizeBuilder := by kernel_rfl
 liesBuilder := by kernel_rfl
 t5 := Tryz.underlying5
 a5 := Tryz.isAgg5
 z5 := Tryz.sizeOf5
 v5 := Tryz.zeroValue5
 infoByte := by kernel_rfl
 cellsByte := by kernel_rfl
 sizeByte := by kernel_rfl
 neB5 := by decide }
open Go.RowKit in
theorem Nf (a : Option Addr) (c : Nat) (sep : ByteArray) (w : World) :
  Calls Tryz.prog 29 #[.slice a 0 c, .string sep] w fun e w' => e = .returned (.string ⟨#[]⟩) /\ w' = w := Any.strings_Join_none Lm qC a c sep w
open Go.RowKit in
theorem Ng (bk o c : Nat) (xs : List ByteArray) (sep : ByteArray) (w : World) (hcells : ∀ (j : Nat) x, xs[j]? = some x -> w.cell? ⟨bk, o + j, none⟩ = some (.string x)) (hbk : bk < w.heap.size) (hN : xs.length <= 140737488355328) (hcap : xs.length <= c) (hlen : (Lib.join (xs.map (·.data.toList)) sep.data.toList).length <= 140737488355328) :
  Calls Tryz.prog 29 #[.slice (some ⟨bk, o, none⟩) xs.length c, .string sep] w fun e w' => e = .returned (.string ⟨(Lib.join (xs.map (·.data.toList)) sep.data.toList).toArray⟩) /\ Below w.heap.size w w' := Any.strings_Join Lm qC bk o c xs sep w hcells hbk hN hcap hlen
end Go.Proofs.YtingkbeifohihaaGreatDoor
