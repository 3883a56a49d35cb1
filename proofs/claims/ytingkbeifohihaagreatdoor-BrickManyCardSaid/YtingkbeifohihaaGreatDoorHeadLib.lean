/-
  Library contracts laid at this dump in plain words: strings.Trim, slices.Sort, slices.Compact. No statement is proved here.
-/
import Derived.Test.YtingkbeifohihaaGreatDoorDiskCalls
import Derived.Test.YtingkbeifohihaaGreatDoorWalMap
import Derived.Test.YtingkbeifohihaaGreatDoorRowMore
import Derived.Test.YtingkbeifohihaaGreatDoorMarkSmall
import Derived.Shelf.SlGeneric
import Derived.Shelf.Strings.Trim
import Derived.Ground.NamesProg
import Derived.Ground.Names2Prog
import Derived.Shelf.Slices.CompactI
import Derived.Shelf.Slices.Cells
import Derived.Ground.SlgmProg
import Derived.Shelf.SortM.Plain
import Derived.Shelf.SortM.SortNone
import Derived.Test.YtingkbeifohihaaGreatDoorProg
namespace Go.Proofs.YtingkbeifohihaaGreatDoor
open Go.RowKit
theorem jP {P : Program} {ops : Array Oper} {Q : Exit -> Act -> World -> Prop} (lo k hi m : Nat) (J : (Nat -> Bool) -> (Nat -> Value) -> World -> Prop) {id : Nat} {a : Act} {w : World}
  (hm : P.follows .mixedOrders = true) (he : nU .any ops = true) (hsz : ops.size = k + m) (hm0 : 0 < m) (hsink : (List.range' k m).all (fun i => wZ ops i) = true) (hhi : lo + k = hi + 1) (hlo : lo + k <= a.tmps.size)
  (h0 : J (fun _ => false) (fun _ => undef) w.drew)
  (hops : ∀ i, i < k -> ∀ (L : Nat -> Bool) (f : Nat -> Value) (x : Act) (w' : World), bI a lo hi x -> L i = false -> J L f w' -> (∀ j ∈ aQ .any ops i, L j = true) -> (∀ j, j < k -> L j = true -> x.tmps[lo + j]?.getD undef = f j) -> wpOp P ops Q i (fun x' w'' => ∃ v, x' = x.put (some (lo + i)) v /\ J (fun j => if i = j then true else L j) (fun j => if i = j then v else f j) w'') x w')
  (hrest : ∀ (L : Nat -> Bool) (f : Nat -> Value) (w' : World), (∀ j, j < k -> L j = true) -> J L f w' -> wpOps P ops Q (List.range' k m) ⟨iC lo k f a.tmps, a.defers⟩ w') : (Code.region id ops true).wp P Q a w := by
 have hsk : ∀ i, k <= i -> i < k + m -> wZ ops i = true := fun i h1 h2 => List.all_eq_true.1 hsink i (by rw [List.mem_range'_1]; omega)
 have hcl : ∀ (L : Nat -> Bool) (i : Nat), (∀ i, L i = true -> ∀ j ∈ aQ .any ops i, L j = true) -> (∀ j ∈ aQ .any ops i, L j = true) -> ∀ n, (fun j => if i = j then true else L j) n = true -> ∀ j ∈ aQ .any ops n, (fun j => if i = j then true else L j) j = true := by
  intro L i h1 h2 n hn j hj
  by_cases hij : i = j
  ·simp [hij]
  ·simp only [if_neg hij]
   by_cases hin : i = n
   ·subst hin; exact h2 j hj
   ·simp only [if_neg hin] at hn
    exact h1 n hn j hj
 refine cJ (fun L x w => (∀ i, L i = true -> ∀ j ∈ aQ .any ops i, L j = true) /\
  (((∀ i, k <= i -> L i = false) /\ bI a lo hi x /\ ∃ f, (∀ j, j < k -> L j = true -> x.tmps[lo + j]?.getD undef = f j) /\ J L f w) \/
    ∃ t, k < t /\ t <= k + m /\ (∀ i, i < t -> L i = true) /\ (∀ i, t <= i -> L i = false) /\ wpOps P ops Q (List.range' t (k + m - t)) x w)) hm he ?_ ?_ ?_
 ·exact ⟨(fun _ h => by cases h), .inl ⟨fun _ _ => rfl, bI.refl _ _ _, _, (fun _ _ h => by cases h), h0⟩⟩
 ·intro L x w' i ⟨hc, hI⟩ hi hLi hw
  have hc' := hcl L i hc hw
  rcases hI with ⟨hno, hF, f, hL, hJ⟩ | ⟨t, ht1, ht2, hyes, hno, hO⟩
  ·by_cases hik : i < k
   ·refine wpOp_mono (fun x' w'' h => ?_) (hops i hik L f x w' hF hLi hJ hw hL)
    obtain ⟨v, rfl, hj'⟩ := h
    refine ⟨hc', .inl ⟨fun n hn => ?_, hF.put _ _ (by omega) (by omega), _, fun n hn hLn => ?_, hj'⟩⟩
    ·simp only [if_neg (show ¬ i = n by omega)]
     exact hno n hn
    ·by_cases e : i = n
     ·subst e
      rw [kK _ _ _ (by rw [hF.2.1]; omega), if_pos rfl]
     ·simp only [if_neg e] at hLn ⊢
      rw [fN _ _ _ _ (by omega)]
      exact hL n hn hLn
   ·have hall := gO (L := fun j => if i = j then true else L j) (hsk i (by omega) (by omega)) hc' (by simp)
    have hik2 : i = k := by
     rcases Nat.lt_or_ge k i with h | h
     ·have := hall k h
      simp only [if_neg (show ¬ i = k by omega), hno k (Nat.le_refl _)] at this
      cases this
     ·omega
    subst hik2
    have hallL : ∀ j, j < i -> L j = true := fun j hj => by
     have := hall j hj
     simpa [show i ≠ j by omega] using this
    have hx := Bo hF hhi hlo (fun j hj => hL j hj (hallL j hj))
    have hr := hrest L f w' hallL hJ
    rw [<- hx] at hr
    obtain ⟨m', rfl⟩ : ∃ m', m = m' + 1 := ⟨m - 1, by omega⟩
    rw [List.range'_succ, wpOps_cons] at hr
    refine wpOp_mono (fun x' w'' h => ⟨hc', .inr ⟨i + 1, by omega, by omega, fun j hj => ?_, fun j hj => ?_, ?_⟩⟩) hr
    ·by_cases e : i = j
     ·simp [e]
     ·simp only [if_neg e]; exact hallL j (by omega)
    ·simp only [if_neg (show ¬ i = j by omega)]; exact hno j (by omega)
    ·rw [show i + (m' + 1) - (i + 1) = m' by omega]; exact h
  ·have hit : i = t := by
    have h1 : t <= i := by
     rcases Nat.lt_or_ge i t with h | h
     ·rw [hyes i h] at hLi; cases hLi
     ·exact h
    rcases Nat.lt_or_ge t i with h | h
    ·have := gO (L := fun j => if i = j then true else L j) (hsk i (by omega) (by omega)) hc' (by simp) t h
     simp only [if_neg (show ¬ i = t by omega), hno t (Nat.le_refl _)] at this
     cases this
    ·omega
   subst hit
   obtain ⟨d, hd⟩ : ∃ d, k + m - i = d + 1 := ⟨k + m - i - 1, by omega⟩
   rw [hd, List.range'_succ, wpOps_cons] at hO
   refine wpOp_mono (fun x' w'' h => ⟨hc', .inr ⟨i + 1, by omega, by omega, fun j hj => ?_, fun j hj => ?_, ?_⟩⟩) hO
   ·by_cases e : i = j
    ·simp [e]
    ·simp only [if_neg e]; exact hyes j (by omega)
   ·simp only [if_neg (show ¬ i = j by omega)]; exact hno j (by omega)
   ·rw [show k + m - (i + 1) = d by omega]; exact h
 ·intro L x w' ⟨_, hI⟩ hall
  rcases hI with ⟨hno, _⟩ | ⟨t, ht1, ht2, _, hno, hO⟩
  ·have := hall k (by omega)
   rw [hno k (Nat.le_refl _)] at this
   cases this
  ·have e : t = k + m := by
    rcases Nat.lt_or_ge t (k + m) with h | h
    ·have := hall t (by omega)
     rw [hno t (Nat.le_refl _)] at this
     cases this
    ·omega
   subst e
   rw [Nat.sub_self] at hO
   exact hO
theorem dR {w w' : World} {base : Nat} {e : TypeId} {size : Nat} {v : Value} {n : Nat} {xs : List Value} (h : w.ownsRow base e size v n xs) (hb : Below w.heap.size w w') : w'.ownsRow base e size v n xs := by
 refine ⟨h.1, ?_⟩
 rcases h.2 with hn | ⟨g, cap, cur, rfl, hb1, hg, rest⟩
 ·exact .inl hn
 ·exact .inr ⟨g, cap, cur, rfl, hb1, (hb.block g (h.lt g rfl).2).trans hg, rest⟩
set_option maxRecDepth 100000
set_option maxHeartbeats 8000000
theorem nQ : (Tryz.prog.info? 3).map (fun i => (i.zero, i.size, i.bytes)) = some (some (.int .i64 0), 1, 8) := by kernel_rfl
theorem bP.far {w w' : World} {g : Nat} {s : Rd} (h : bP w g s) (hh : w'.heap[g]? = w.heap[g]?) : bP w' g s := hh.trans h
theorem bP.lt {w : World} {g : Nat} {s : Rd} (h : bP w g s) : g < w.heap.size := aG.lt h
structure PJ (w0 : World) (g h4 : Nat) (q : Int) (fl : Bool) (v : Value) (j : Nat) (old : List Value) (x : Int) (s1 s2 : Rd) (L : Nat -> Bool) (f : Nat -> Value) (w' : World) : Prop where
 f0 : L 0 = true -> f 0 = .pointer (some ⟨h4, 2, none⟩)
 f1 : L 1 = true -> f 1 = v
 f2 : L 2 = true -> f 2 = .pointer (some ⟨g, 0, none⟩)
 f3 : L 3 = true -> f 3 = .int .i64 x
 f4 : L 4 = true -> ∃ b, f 4 = .slice (some ⟨b, 0, none⟩) 1 1 /\ aG w' b 3 #[.int .i64 x] /\ b ≠ g /\ b ≠ h4 /\ v.ownBlock ≠ some b
 f5 : L 5 = true -> ∃ gd cap, f 5 = .slice (some ⟨gd, 0, none⟩) (j + 1) cap /\ w'.ownsRow w0.heap.size 3 1 (.slice (some ⟨gd, 0, none⟩) (j + 1) cap) (j + 1) (old ++ [.int .i64 x]) /\ gd ≠ g /\ gd ≠ h4 /\ gd ≠ w0.heap.size
 c4 : L 4 = true -> L 3 = true
 c5 : L 5 = true -> L 4 = true
 rd : bP w' g (if L 3 = true then s2 else s1)
 hd : aG w' h4 160 #[.int .i64 q, .bool fl, v]
 row : L 5 = false -> w'.ownsRow w0.heap.size 3 1 v j old
 below : Below w0.heap.size w0 w'
 r0 : aG w' w0.heap.size 160 #[.int .i64 0, .bool false, .slice none 0 0]
theorem Jt (h : HD) (hv : h.Valid) (w : World) :
  Calls Tryz.prog 176 #[.string (bs (gU 256 h.bytes))] w fun e w' => ∃ A c, e = .returned (h.val A c) /\ h.At w' A c /\ (∀ b off, A = some ⟨b, off, none⟩ -> w.heap.size <= b) /\ Below w.heap.size w w' := by
 obtain ⟨z, hz⟩ := Xd h
 obtain ⟨sq, hsq⟩ : ∃ n : Nat, h.seq = (n : Int) := ⟨h.seq.toNat, by have := hv.seq; omega⟩
 have hbl := hv.body_len
 obtain ⟨Y, hY⟩ : ∃ Y, Y = bs (gU 256 h.bytes) := ⟨_, rfl⟩
 have hYs : Y.size = 252 := by rw [hY, dO, hbl]
 have hsb : sq < 256 ^ 8 := by have := hv.seq; omega
 have hsm : sq <= 9223372036854775807 := by have := hv.seq; omega
 obtain ⟨R1, hR1⟩ : ∃ R : Rd, R = ⟨bs (aD 1 (jF h.full) ++ (aD 8 sq ++ (aD 2 h.ts.length ++ (aO 2 h.ts ++ z)))), 0⟩ := ⟨_, rfl⟩
 obtain ⟨R2, hR2⟩ : ∃ R : Rd, R = ⟨bs (aD 8 sq ++ (aD 2 h.ts.length ++ (aO 2 h.ts ++ z))), 0⟩ := ⟨_, rfl⟩
 obtain ⟨R3, hR3⟩ : ∃ R : Rd, R = ⟨bs (aD 2 h.ts.length ++ (aO 2 h.ts ++ z)), 0⟩ := ⟨_, rfl⟩
 have N1 : (Rd.mk Y 0).num 1 = (7, R1) := by rw [hY, hz, hsq, Int.toNat_natCast, qU 1 7 _ (by decide) (by decide), hR1]; rfl
 have N2 : R1.num 1 = ((jF h.full : Int), R2) := by rw [hR1, qU 1 _ _ (by have := wI h.full; omega) (by have := wI h.full; omega), hR2]
 have N3 : R2.num 8 = ((sq : Int), R3) := by rw [hR2, qU 8 _ _ hsb hsm, hR3]
 have N4 : R3.num 2 = ((h.ts.length : Int), ⟨bs (aO 2 h.ts ++ z), 0⟩) := by rw [hR3, qU 2 _ _ (by have := hv.few; omega) (by have := hv.few; omega)]
 have hzl : (aO 2 h.ts ++ z).length <= 252 := by
  rw [<- hbl, hz]
  simp only [List.length_append]
  omega
 have Z1 : R1.b.size <= 252 := by have := (Rd.mk Y 0).size_num 1; rw [N1] at this; simp only at this; omega
 have Z2 : R2.b.size <= 252 := by have := R1.size_num 1; rw [N2] at this; simp only at this; omega
 have Z3 : R3.b.size <= 252 := by have := R2.size_num 8; rw [N3] at this; simp only at this; omega
 have HYS : Hid (Y.size <= 140737488351232) := Lib.hid (by omega)
 have HB1 : Hid (∀ (W : World) (g : Nat), bP W g ⟨Y, 0⟩ -> Calls Tryz.prog 115 #[.pointer (some ⟨g, 0, none⟩)] W fun e w' => e = .returned (.int .i64 7) /\ bP w' g R1 /\ W.grownBy w' (some g)) := Lib.hid (fun W g hi => by have := lM g _ W hi (by show Y.size <= _; omega); rwa [N1] at this)
 have HB2 : Hid (∀ (W : World) (g : Nat), bP W g R1 -> Calls Tryz.prog 115 #[.pointer (some ⟨g, 0, none⟩)] W fun e w' => e = .returned (.int .i64 (jF h.full : Int)) /\ bP w' g R2 /\ W.grownBy w' (some g)) := Lib.hid (fun W g hi => by have := lM g _ W hi (by omega); rwa [N2] at this)
 have HB3 : Hid (∀ (W : World) (g : Nat), bP W g R2 -> Calls Tryz.prog 198 #[.pointer (some ⟨g, 0, none⟩)] W fun e w' => e = .returned (.int .i64 (sq : Int)) /\ bP w' g R3 /\ W.grownBy w' (some g)) := Lib.hid (fun W g hi => by have := Lg g _ W hi (by omega); rwa [N3] at this)
 obtain ⟨n, hn⟩ : ∃ n, n = h.ts.length := ⟨_, rfl⟩
 rw [<- hn] at N4
 have HB4 : Hid (∀ (W : World) (g : Nat), bP W g R3 -> Calls Tryz.prog 116 #[.pointer (some ⟨g, 0, none⟩)] W fun e w' => e = .returned (.int .i64 (n : Int)) /\ bP w' g ⟨bs (aO 2 h.ts ++ z), 0⟩ /\ W.grownBy w' (some g)) := Lib.hid (fun W g hi => by have := mY g _ W hi (by omega); rwa [N4] at this)
 have HV := Lib.hid hv
 have HN := Lib.hid hn
 have HZL := Lib.hid hzl
 have HSQ := Lib.hid hsq
 have hn110 : (n : Int) <= 110 := by have := hv.few; omega
 obtain ⟨fb, hfb⟩ : ∃ fb, fb = h.full := ⟨_, rfl⟩
 obtain ⟨fi, hfi⟩ : ∃ fi : Int, fi = (jF h.full : Int) := ⟨_, rfl⟩
 have hfv : fi = if fb then 1 else 0 := by rw [hfi, hfb]; exact Fz _
 rw [<- hfi] at HB2
 have HFB := Lib.hid hfb
 obtain ⟨si, hsi⟩ : ∃ si : Int, si = (sq : Int) := ⟨_, rfl⟩
 rw [<- hsi] at HB3
 have HSI := Lib.hid hsi
 have hmin : min (n : Int) 110 = (n : Int) := by omega
 have hneq : (fi != 0) = fb := by rw [hfv]; cases fb <;> rfl
 rw [<- hY]
 clear hz hsq hbl hY hYs hsb hsm hR1 hR2 hR3 N1 N2 N3 N4 hzl Z1 Z2 Z3 hv hn hfb hfi hfv hsi
 go_enter Tryz.func176, Tryz.ntmps176
 go_wp2_with fail
 refine (Ck Y _ HYS.out).mono ?_
 rintro e w1 ⟨g, rfl, hgl, hi1, hb1⟩
 have HR0 : Hid (aG w1 w.heap.size 160 #[.int .i64 0, .bool false, .slice none 0 0]) := Lib.hid ((aG.new w _ _).below hb1 (by simp))
 have HBW : Hid (Below w.heap.size w w1) := Lib.hid (((Below.refl _ _).alloc (Nat.le_refl _) _).trans (hb1.mono (by simp)))
 have HG : Hid (w.heap.size < g) := Lib.hid (by simp at hgl; omega)
 have HI1 := Lib.hid hi1
 clear hgl hi1 hb1
 go_wp2_with fail
 refine (HB1.out _ _ HI1.out).mono ?_
 rintro e w2 ⟨rfl, hi2, hg2⟩
 have HI2 := Lib.hid hi2
 have HG2 := Lib.hid hg2
 clear hi2 hg2
 go_wp2_with fail
 refine (HB2.out _ _ HI2.out).mono ?_
 rintro e w3 ⟨rfl, hi3, hg3⟩
 have HI3 := Lib.hid hi3
 have HG3 := Lib.hid hg3
 clear hi3 hg3
 go_wp2_with fail
 refine (HB3.out _ _ HI3.out).mono ?_
 rintro e w4 ⟨rfl, hi4, hg4⟩
 have HI4 := Lib.hid hi4
 have HG4 := Lib.hid hg4
 clear hi4 hg4
 go_wp2_with fail
 have hi5 : bP (w4.alloc (.cells #[.int .i64 si, .bool fb, .slice none 0 0] 160)) g R3 := HI4.out.far (Below.heap_alloc _ _ _ HI4.out.lt)
 refine (HB4.out _ _ hi5).mono ?_
 rintro e w6 ⟨rfl, hi6, hg6⟩
 have HG4' : Hid (g < w4.heap.size) := Lib.hid HI4.out.lt
 have HI6 := Lib.hid hi6
 have hgn : some g ≠ some w4.heap.size := fun e => by injection e with e; have := HG4'.out; omega
 have HH6 : Hid (aG w6 w4.heap.size 160 #[.int .i64 si, .bool fb, .slice none 0 0]) := Lib.hid (aV (aG.new w4 _ _) hg6 hgn)
 have HR6 : Hid (aG w6 w.heap.size 160 #[.int .i64 0, .bool false, .slice none 0 0]) := Lib.hid (by
  have hn : some g ≠ some w.heap.size := fun e => by injection e with e; have := HG.out; omega
  have b4 := aV (aV (aV HR0.out HG2.out hn) HG3.out hn) HG4.out hn
  exact aV (aG.below b4 ((Below.refl _ _).alloc (Nat.le_refl _) _) b4.lt) hg6 hn)
 have HB6 : Hid (Below w.heap.size w w6) := Lib.hid (by
  have hw : w.heap.size <= g := by have := HG.out; omega
  have k4 := aH (aH (aH HBW.out HG2.out hw) HG3.out hw) HG4.out hw
  exact aH (k4.alloc k4.size _) hg6 hw)
 have HW4 : Hid (w.heap.size < w4.heap.size) := Lib.hid (by
  have := HG.out
  have := HG4'.out
  omega)
 obtain ⟨h4, hh4⟩ : ∃ h4, h4 = w4.heap.size := ⟨_, rfl⟩
 rw [<- hh4] at HH6 HW4 hgn
 have HGN := Lib.hid hgn
 rw [<- hh4]
 clear hi5 hi6 hg6 HI1 HI2 HI3 HI4 HG2 HG3 HG4 HR0 HBW HB1 HB2 HB3 HB4 HG4' hh4 hgn
 go_wp2_with fail
 go_loopw [18] (fun i wr => ∃ (j : Nat) (v : Value), j <= n /\ i = .int .i64 j /\ bP wr g ⟨bs (aO 2 (h.ts.drop j) ++ z), 0⟩ /\ aG wr h4 160 #[.int .i64 si, .bool fb, v] /\ wr.ownsRow w.heap.size 3 1 v j ((h.ts.take j).map (Value.int .i64)) /\ v.ownBlock ≠ some g /\ v.ownBlock ≠ some h4 /\ v.ownBlock ≠ some w.heap.size /\ aG wr w.heap.size 160 #[.int .i64 0, .bool false, .slice none 0 0] /\ Below w.heap.size w wr) (fun i _ => n - (intOf i).toNat)
 case atStart => exact ⟨0, .slice none 0 0, Nat.zero_le _, rfl, HI6.out, HH6.out, World.ownsRow_nil _ _ _ _, by simp [Value.ownBlock], by simp [Value.ownBlock], by simp [Value.ownBlock], HR6.out, HB6.out⟩
 case round =>
  obtain ⟨j, v, hj, rfl, hi, hh, hrow, hvg, hvh, hvr, hr0, hb⟩ := hrel
  obtain ⟨pv, cv, rfl, -⟩ := kV hrow
  have HI := Lib.hid hi
  have HH := Lib.hid hh
  have HRW := Lib.hid hrow
  have HVG := Lib.hid (And.intro hvg (And.intro hvh hvr))
  have HR0 := Lib.hid hr0
  have HB := Lib.hid hb
  clear hi hh hrow hvg hvh hvr hr0 hb HI6 HH6 HR6 HB6
  by_cases hlt : j < n
  ·have hjl : j < h.ts.length := by rw [<- HN.out]; exact hlt
   obtain ⟨x, hx⟩ : ∃ x, x = h.ts[j] := ⟨_, rfl⟩
   have hxr := HV.out.range x (by rw [hx]; exact List.getElem_mem hjl)
   have hdrop : h.ts.drop j = x :: h.ts.drop (j + 1) := by rw [List.drop_eq_getElem_cons hjl, hx]
   have HTK : Hid ((h.ts.take (j + 1)).map (Value.int .i64) = (h.ts.take j).map (Value.int .i64) ++ [.int .i64 x]) := Lib.hid (by rw [List.take_succ_eq_append_getElem hjl, List.map_append, hx]; rfl)
   obtain ⟨xn, hxn⟩ : ∃ xn : Nat, x = (xn : Int) := ⟨x.toNat, by omega⟩
   have hnum : (Rd.mk (bs (aO 2 (h.ts.drop j) ++ z)) 0).num 2 = (x, ⟨bs (aO 2 (h.ts.drop (j + 1)) ++ z), 0⟩) := by
    rw [hdrop, zX, List.append_assoc, hxn, Int.toNat_natCast, qU 2 xn _ (by omega) (by omega)]
   have hsz : (bs (aO 2 (h.ts.drop j) ++ z)).size <= 252 := by
    rw [dO]
    have h1 := HZL.out
    rw [List.length_append, dG] at h1 ⊢
    rw [List.length_drop]
    have : (h.ts.length - j) * 2 <= h.ts.length * 2 := Nat.mul_le_mul_right _ (by omega)
    omega
   have HCL : Hid (∀ W, bP W g ⟨bs (aO 2 (h.ts.drop j) ++ z), 0⟩ -> Calls Tryz.prog 116 #[.pointer (some ⟨g, 0, none⟩)] W fun e w' => e = .returned (.int .i64 x) /\ bP w' g ⟨bs (aO 2 (h.ts.drop (j + 1)) ++ z), 0⟩ /\ W.grownBy w' (some g)) := Lib.hid (fun W hi => by have := mY g _ W hi (Nat.le_trans hsz (by omega)); rwa [hnum] at this)
   obtain ⟨s1, hs1⟩ : ∃ s : Rd, s = ⟨bs (aO 2 (h.ts.drop j) ++ z), 0⟩ := ⟨_, rfl⟩
   obtain ⟨s2, hs2⟩ : ∃ s : Rd, s = ⟨bs (aO 2 (h.ts.drop (j + 1)) ++ z), 0⟩ := ⟨_, rfl⟩
   rw [<- hs1, <- hs2] at HCL
   rw [<- hs1] at HI
   have HS2 := Lib.hid hs2
   have hjI : (j : Int) < (n : Int) := by omega
   have hj110 : j <= 110 := by omega
   clear hx hxr hdrop hxn hnum hsz hs1 hs2 hjl
   obtain ⟨old, hold⟩ : ∃ old, old = (h.ts.take j).map (Value.int .i64) := ⟨_, rfl⟩
   rw [<- hold] at HRW HTK
   go_upto_region 6 with fail
   obtain ⟨i0, hi0, hz0, hz1, hz2⟩ := info_parts nQ
   refine jP 20 6 25 2 (PJ w g h4 si fb (.slice pv j cv) j old x s1 s2) (by kernel_rfl) (by kernel_rfl) rfl (by omega) (by kernel_rfl) rfl (by simp) ?h0 ?hops ?hrest
   case h0 => exact ⟨(fun h => by cases h), (fun h => by cases h), (fun h => by cases h), (fun h => by cases h), (fun h => by cases h), (fun h => by cases h), (fun h => by cases h), (fun h => by cases h), HI.out, HH.out, fun _ => cG HRW.out (fun _ _ => rfl), HB.out.drew, HR0.out⟩
   case hops =>
    intro o ho L f y w' hF hLo hJ hw hy
    have HJ := Lib.hid hJ
    clear hJ
    rcases (show o = 0 \/ o = 1 \/ o = 2 \/ o = 3 \/ o = 4 \/ o = 5 by omega) with rfl | rfl | rfl | rfl | rfl | rfl
    ·have t0 : y.tmps[4]?.getD undef = .pointer (some ⟨h4, 0, none⟩) := by rw [hF.2.2 4 (by omega)]; rfl
     clear hw hy hF
     refine aA (v := .pointer (some ⟨h4, 2, none⟩)) (w' := w') rfl rfl ?_ ⟨_, rfl, ?_⟩
     ·go_simp
     ·have k := HJ.out
      exact ⟨fun _ => rfl, k.f1, k.f2, k.f3, k.f4, k.f5, k.c4, k.c5, k.rd, k.hd, k.row, k.below, k.r0⟩
    ·have l0 : L 0 = true := hw 0 (of_decide_eq_true (by kernel_rfl))
     have t0 : y.tmps[20]?.getD undef = .pointer (some ⟨h4, 2, none⟩) := (hy 0 (by omega) l0).trans (HJ.out.f0 l0)
     have c2 := HJ.out.hd.cell 2
     simp at c2
     clear hw hy hF
     refine aA (v := .slice pv j cv) (w' := w') rfl rfl ?_ ⟨_, rfl, ?_⟩
     ·go_simp
     ·have k := HJ.out
      exact ⟨k.f0, fun _ => rfl, k.f2, k.f3, k.f4, k.f5, k.c4, k.c5, k.rd, k.hd, k.row, k.below, k.r0⟩
    ·have t0 : y.tmps[3]?.getD undef = .pointer (some ⟨g, 0, none⟩) := by rw [hF.2.2 3 (by omega)]; rfl
     clear hw hy hF
     refine aA (v := .pointer (some ⟨g, 0, none⟩)) (w' := w') rfl rfl ?_ ⟨_, rfl, ?_⟩
     ·go_simp
     ·have k := HJ.out
      exact ⟨k.f0, k.f1, fun _ => rfl, k.f3, k.f4, k.f5, k.c4, k.c5, k.rd, k.hd, k.row, k.below, k.r0⟩
    ·have l2 : L 2 = true := hw 2 (of_decide_eq_true (by kernel_rfl))
     have t0 : y.tmps[22]?.getD undef = .pointer (some ⟨g, 0, none⟩) := (hy 2 (by omega) l2).trans (HJ.out.f2 l2)
     have l4 : L 4 = false := by
      cases hl : L 4 with
      | false => rfl
      | true => rw [HJ.out.c4 hl] at hLo; cases hLo
     have l5 : L 5 = false := by
      cases hl : L 5 with
      | false => rfl
      | true => rw [HJ.out.c5 hl] at l4; cases l4
     have hrd := HJ.out.rd
     rw [hLo, if_neg (by decide)] at hrd
     clear hw hy hF
     refine aP (f := 116) (args := #[.pointer (some ⟨g, 0, none⟩)]) rfl rfl (by go_simp) ((HCL.out w' hrd).mono ?_)
     rintro e w'' ⟨rfl, hi2, hg2⟩
     have k := HJ.out
     refine ⟨_, rfl, _, rfl, ?_⟩
     have hgw : w.heap.size <= g := by have := HG.out; omega
     exact ⟨k.f0, k.f1, k.f2, fun _ => rfl, (fun h => by rw [show L 4 = true from h] at l4; cases l4), (fun h => by rw [show L 5 = true from h] at l5; cases l5), (fun h => by rw [show L 4 = true from h] at l4; cases l4), (fun h => by rw [show L 5 = true from h] at l5; cases l5), hi2, aV k.hd hg2 HGN.out, fun _ => pU (k.row l5) hg2 (fun q e => by injection e with e; subst e; exact HVG.out.1), aH k.below hg2 hgw, aV k.r0 hg2 (fun e => by injection e with e; have := HG.out; omega)⟩
    ·have l3 : L 3 = true := hw 3 (of_decide_eq_true (by kernel_rfl))
     have t0 : y.tmps[23]?.getD undef = .int .i64 x := (hy 3 (by omega) l3).trans (HJ.out.f3 l3)
     have l5 : L 5 = false := by
      cases hl : L 5 with
      | false => rfl
      | true => rw [HJ.out.c5 hl] at hLo; cases hLo
     clear hw hy hF
     refine aA (v := .slice (some ⟨w'.heap.size, 0, none⟩) 1 1) (w' := w'.alloc (.cells #[.int .i64 x] 3)) rfl rfl ?_ ⟨_, rfl, ?_⟩
     ·go_simp
     ·have k := HJ.out
      have hg1 : w'.grownBy (w'.alloc (.cells #[.int .i64 x] 3)) none := bH (aC _ _) _
      have e3 : (if (if 4 = 3 then true else L 3) = true then s2 else s1) = (if L 3 = true then s2 else s1) := rfl
      exact ⟨k.f0, k.f1, k.f2, k.f3, fun _ => ⟨_, rfl, aG.new _ _ _, by have := k.rd.lt; omega, by have := k.hd.lt; omega, fun e => by have := ((k.row l5).lt _ e).2; omega⟩, (fun h => by rw [show L 5 = true from h] at l5; cases l5), fun _ => l3, (fun h => by rw [show L 5 = true from h] at l5; cases l5), aV k.rd hg1 (by simp), aV k.hd hg1 (by simp), fun _ => pU (k.row l5) hg1 (fun q e => by cases e), k.below.alloc k.below.size _, aV k.r0 hg1 (by simp)⟩
    ·have l4 : L 4 = true := hw 4 (of_decide_eq_true (by kernel_rfl))
     have l1 : L 1 = true := hw 1 (of_decide_eq_true (by kernel_rfl))
     have k := HJ.out
     have l3 := k.c4 l4
     obtain ⟨b, hb4, hbk, hbg, hbh, hbv⟩ := k.f4 l4
     have t1 : y.tmps[21]?.getD undef = .slice pv j cv := (hy 1 (by omega) l1).trans (k.f1 l1)
     have t2 : y.tmps[24]?.getD undef = .slice (some ⟨b, 0, none⟩) 1 1 := (hy 4 (by omega) l4).trans hb4
     obtain ⟨gd, cap, Wf, hrun, hown, hgrow, hor, hlt'⟩ := run_append_lies (P := Tryz.prog) w' 33 33 w.heap.size 3 i0 (.int .i64 0) 1 8 Tryz.underlying33 hi0 hz0 hz1 hz2 rfl (by omega)
      (.slice pv j cv) j old (k.row hLo) ⟨b, 0, none⟩ 1 1 [.int .i64 x] rfl (fun i u hu => by
       match i, hu with
       | 0, hu =>
         injection hu with hu
         subst hu
         rw [Go.WideShapes.add_plain]
         exact hbk.cell 0) (by intro u hu; have := List.mem_singleton.1 hu; subst this; rfl) (by omega) (by unfold maxLen; omega) (by omega) k.below.size _ rfl
     refine aA (v := .slice (some ⟨gd, 0, none⟩) (j + 1) cap) (w' := Wf) rfl rfl (oS rfl (by simpa [Act.eval] using t1) (by simpa [Act.eval] using t2) hrun) ⟨_, rfl, ?_⟩
     have hne : ∀ q, q < w'.heap.size -> (Value.slice pv j cv).ownBlock ≠ some q -> gd ≠ q := by
      intro q hq hvq e
      subst e
      rcases hor with h1 | h1
      ·exact hvq h1
      ·omega
     have n1 : gd ≠ g := hne g k.rd.lt HVG.out.1
     have n2 : gd ≠ h4 := hne h4 k.hd.lt HVG.out.2.1
     have n3 : gd ≠ w.heap.size := hne w.heap.size k.r0.lt HVG.out.2.2
     exact ⟨k.f0, k.f1, k.f2, k.f3, fun _ => ⟨b, hb4, aV hbk hgrow hbv, hbg, hbh, hbv⟩, fun _ => ⟨gd, cap, rfl, hown, n1, n2, n3⟩, fun _ => l3, fun _ => l4, aV k.rd hgrow HVG.out.1, aV k.hd hgrow HVG.out.2.1, (fun h => by cases h), k.below.grown hgrow k.below.size (fun q e => ((k.row hLo).lt q e).1), aV k.r0 hgrow HVG.out.2.2⟩
   case hrest =>
    intro L f w' hL hJ
    have k := hJ
    obtain ⟨gd, cap, hf5, hown, n1, n2, n3⟩ := k.f5 (hL 5 (by omega))
    have HLL := Lib.hid (hL 3 (by omega))
    have HK := Lib.hid hJ
    have HOWN := Lib.hid hown
    have c2 := k.hd.cell 2
    have f2 := k.hd.frozen 2
    simp at c2
    clear hL hJ k hown
    rw [show List.range' 6 2 = [6, 7] from rfl]
    simp only [iC, List.range, List.range.loop, List.foldl, Nat.reduceAdd, List.setIfInBounds_toArray, List.set_cons_succ, List.set_cons_zero, hf5]
    clear hf5
    rw [wpOps_cons]
    refine aA (v := .pointer (some ⟨h4, 2, none⟩)) (w' := w') rfl rfl (by go_simp) ?_
    rw [wpOps_cons]
    refine eC (w' := w'.setCell ⟨h4, 2, none⟩ (.slice (some ⟨gd, 0, none⟩) (j + 1) cap)) rfl rfl (by simp only [Act.put, List.setIfInBounds_toArray]; go_simp) ?_
    simp only [wpOps, Act.put, List.setIfInBounds_toArray]
    clear c2 f2
    have hlen : j + 1 <= n := hlt
    have hlen2 : (j : Int) + 1 <= (n : Int) := by omega
    have HREL : Hid (∃ (j' : Nat) (v : Value), j' <= n /\ Value.int .i64 ((j : Int) + 1) = .int .i64 j' /\ bP (w'.setCell ⟨h4, 2, none⟩ (.slice (some ⟨gd, 0, none⟩) (j + 1) cap)) g ⟨bs (aO 2 (h.ts.drop j') ++ z), 0⟩ /\ aG (w'.setCell ⟨h4, 2, none⟩ (.slice (some ⟨gd, 0, none⟩) (j + 1) cap)) h4 160 #[.int .i64 si, .bool fb, v] /\ (w'.setCell ⟨h4, 2, none⟩ (.slice (some ⟨gd, 0, none⟩) (j + 1) cap)).ownsRow w.heap.size 3 1 v j' ((h.ts.take j').map (Value.int .i64)) /\ v.ownBlock ≠ some g /\ v.ownBlock ≠ some h4 /\ v.ownBlock ≠ some w.heap.size /\ aG (w'.setCell ⟨h4, 2, none⟩ (.slice (some ⟨gd, 0, none⟩) (j + 1) cap)) w.heap.size 160 #[.int .i64 0, .bool false, .slice none 0 0] /\ Below w.heap.size w (w'.setCell ⟨h4, 2, none⟩ (.slice (some ⟨gd, 0, none⟩) (j + 1) cap))) := Lib.hid (by
     have k := HK.out
     have hgh : h4 ≠ g := fun e => HGN.out (by rw [e])
     have l3 : L 3 = true := HLL.out
     have hrd := k.rd
     rw [l3, if_pos rfl, HS2.out] at hrd
     have hd := k.hd.put 2 (.slice (some ⟨gd, 0, none⟩) (j + 1) cap)
     have hw4 := HW4.out
     refine ⟨j + 1, .slice (some ⟨gd, 0, none⟩) (j + 1) cap, hlen, by simp, aG.far hrd (fun e => hgh e.symm) _, hd, ?_, by simpa [Value.ownBlock] using n1, by simpa [Value.ownBlock] using n2, ?_, ?_, k.below.setCell (by show w.heap.size <= h4; omega) _⟩
     ·rw [HTK.out]
      exact cG HOWN.out (fun q e => Below.heap_setCell _ _ _ _ (fun e2 => by cases e; exact n2 e2))
     ·simpa [Value.ownBlock] using n3
     ·exact aG.far k.r0 (fun e => by have e : w.heap.size = h4 := e; omega) _)
    clear HK HOWN
    go_wp2_with fail
    go_roundw
    case rel => exact HREL.out
    case measure => simp [intOf]; omega
  ·obtain rfl : j = n := by omega
   have c0 := HH.out.cell 0
   have c1 := HH.out.cell 1
   have c2 := HH.out.cell 2
   have r0 := HR0.out.cell 0
   have r1 := HR0.out.cell 1
   have r2 := HR0.out.cell 2
   have f0 := HR0.out.frozen 0
   have f1 := HR0.out.frozen 1
   have f2 := HR0.out.frozen 2
   simp at c0 c1 c2 r0 r1 r2
   go_wp2_with fail
   have b3 := ((HR0.out.put 0 (.int .i64 si)).put 1 (.bool fb)).put 2 (.slice pv j cv)
   refine dV rfl rfl (eY b3) rfl ?_
   refine ⟨pv, cv, ?_, ⟨?_, by rw [<- HN.out]; omega⟩, fun b off e => ?_, ((HB.out.setCell (Nat.le_refl _) _).setCell (Nat.le_refl _) _).setCell (Nat.le_refl _) _⟩
   ·unfold HD.val
    rw [HSI.out, <- HSQ.out, HFB.out, HN.out]
   ·intro hp
    have hrow := HRW.out
    rw [List.take_of_length_le (by rw [HN.out]; exact Nat.le_refl _)] at hrow
    obtain ⟨gv, cap, e, _, hlt2⟩ := hrow.form (by rw [HN.out]; exact hp)
    injection e with e1 _ e3
    subst e1 e3
    refine ⟨gv, 0, rfl, by simpa [World.setCell] using hlt2, fun i x hx => ?_⟩
    have hc := hrow.cells (g := gv) rfl i (.int .i64 x) (by rw [List.getElem?_map, hx]; rfl)
    have hne : gv ≠ w.heap.size := fun e => HVG.out.2.2 (by rw [<- e]; rfl)
    rw [fY] at hc
    rw [World.cell?_of_block (w := wr) ((Below.heap_setCell _ _ _ _ (fun e => hne e)).trans ((Below.heap_setCell _ _ _ _ (fun e => hne e)).trans (Below.heap_setCell _ _ _ _ (fun e => hne e))))]
    exact hc
   ·subst e
    rcases HRW.out.2 with ⟨e1, _⟩ | ⟨g', cap', cur, e1, hb1, _⟩
    ·cases e1
    ·injection e1 with e1 _ _
     injection e1 with e1
     injection e1 with e1 _ _
     subst e1
     exact hb1
set_option maxRecDepth 100000
set_option maxHeartbeats 8000000
def vD (s : Rd) : Nat -> List Int × Rd
 | 0 => ([], s)
 | j + 1 => ((vD s j).1 ++ [((vD s j).2.num 2).1], ((vD s j).2.num 2).2)
theorem sO (s : Rd) : ∀ j, (vD s j).1.length = j
 | 0 => rfl
 | j + 1 => by simp [vD, sO s j]
theorem yP (s : Rd) : ∀ j, (vD s j).2.b.size <= s.b.size
 | 0 => Nat.le_refl _
 | j + 1 => Nat.le_trans (Rd.size_num _ 2) (yP s j)
def tQ (Y : ByteArray) : Rd := ((Rd.mk Y 0).num 1).2
def tR (Y : ByteArray) : Rd := ((tQ Y).num 1).2
def tS (Y : ByteArray) : Rd := ((tR Y).num 8).2
def Jr (Y : ByteArray) : Rd := ((tS Y).num 2).2
def Uh (Y : ByteArray) : Nat := (min ((tS Y).num 2).1 110).toNat
def iE (Y : ByteArray) : HD := ⟨((tR Y).num 8).1, ((tQ Y).num 1).1 != 0, (vD (Jr Y) (Uh Y)).1⟩
theorem Js (Y : ByteArray) (hYs : Y.size <= 1000000) (w : World) :
  Calls Tryz.prog 176 #[.string Y] w fun e w' => ∃ A c, e = .returned ((iE Y).val A c) /\ w'.ownsRow w.heap.size 3 1 (.slice A (iE Y).ts.length c) (iE Y).ts.length ((iE Y).ts.map (Value.int .i64)) /\ (iE Y).ts.length <= 110 /\ Below w.heap.size w w' := by
 have Z1 : (tQ Y).b.size <= Y.size := (Rd.mk Y 0).size_num 1
 have Z2 : (tR Y).b.size <= Y.size := Nat.le_trans (Rd.size_num _ 1) Z1
 have Z3 : (tS Y).b.size <= Y.size := Nat.le_trans (Rd.size_num _ 8) Z2
 have Z4 : (Jr Y).b.size <= Y.size := Nat.le_trans (Rd.size_num _ 2) Z3
 have HYS : Hid (Y.size <= 140737488351232) := Lib.hid (by omega)
 obtain ⟨k0, hk0⟩ : ∃ k, k = ((Rd.mk Y 0).num 1).1 := ⟨_, rfl⟩
 obtain ⟨fi, hfi⟩ : ∃ k, k = ((tQ Y).num 1).1 := ⟨_, rfl⟩
 obtain ⟨si, hsi⟩ : ∃ k, k = ((tR Y).num 8).1 := ⟨_, rfl⟩
 obtain ⟨k4, hk4⟩ : ∃ k, k = ((tS Y).num 2).1 := ⟨_, rfl⟩
 obtain ⟨R1, hR1⟩ : ∃ R, R = tQ Y := ⟨_, rfl⟩
 obtain ⟨R2, hR2⟩ : ∃ R, R = tR Y := ⟨_, rfl⟩
 obtain ⟨R3, hR3⟩ : ∃ R, R = tS Y := ⟨_, rfl⟩
 obtain ⟨R4, hR4⟩ : ∃ R, R = Jr Y := ⟨_, rfl⟩
 have HB1 : Hid (∀ (W : World) (g : Nat), bP W g ⟨Y, 0⟩ -> Calls Tryz.prog 115 #[.pointer (some ⟨g, 0, none⟩)] W fun e w' => e = .returned (.int .i64 k0) /\ bP w' g R1 /\ W.grownBy w' (some g)) := Lib.hid (fun W g hi => by have := lM g _ W hi (by show Y.size <= _; omega); rw [<- hk0, show ((Rd.mk Y 0).num 1).2 = R1 from hR1.symm] at this; exact this)
 have HB2 : Hid (∀ (W : World) (g : Nat), bP W g R1 -> Calls Tryz.prog 115 #[.pointer (some ⟨g, 0, none⟩)] W fun e w' => e = .returned (.int .i64 fi) /\ bP w' g R2 /\ W.grownBy w' (some g)) := Lib.hid (fun W g hi => by have := lM g _ W hi (by rw [hR1]; omega); rw [hR1, <- hfi, show ((tQ Y).num 1).2 = R2 from hR2.symm] at this; exact this)
 have HB3 : Hid (∀ (W : World) (g : Nat), bP W g R2 -> Calls Tryz.prog 198 #[.pointer (some ⟨g, 0, none⟩)] W fun e w' => e = .returned (.int .i64 si) /\ bP w' g R3 /\ W.grownBy w' (some g)) := Lib.hid (fun W g hi => by have := Lg g _ W hi (by rw [hR2]; omega); rw [hR2, <- hsi, show ((tR Y).num 8).2 = R3 from hR3.symm] at this; exact this)
 have HB4 : Hid (∀ (W : World) (g : Nat), bP W g R3 -> Calls Tryz.prog 116 #[.pointer (some ⟨g, 0, none⟩)] W fun e w' => e = .returned (.int .i64 k4) /\ bP w' g R4 /\ W.grownBy w' (some g)) := Lib.hid (fun W g hi => by have := mY g _ W hi (by rw [hR3]; omega); rw [hR3, <- hk4, show ((tS Y).num 2).2 = R4 from hR4.symm] at this; exact this)
 have hk0 : 0 <= k4 := by rw [hk4]; exact (Rd.num_range _ _).1
 obtain ⟨n, hn⟩ : ∃ n, n = Uh Y := ⟨_, rfl⟩
 have hmin : min k4 110 = (n : Int) := by rw [hn]; unfold Uh; rw [<- hk4]; omega
 have hn110 : (n : Int) <= 110 := by omega
 obtain ⟨T, hT⟩ : ∃ T, T = vD R4 := ⟨_, rfl⟩
 have HTL : Hid (∀ j, (T j).1.length = j) := Lib.hid (fun j => by rw [hT]; exact sO _ j)
 have HTS : Hid (∀ j, (T j).2.b.size <= 1000000) := Lib.hid (fun j => by rw [hT]; exact Nat.le_trans (yP R4 j) (by rw [hR4]; omega))
 have HTN : Hid (∀ j, T (j + 1) = ((T j).1 ++ [((T j).2.num 2).1], ((T j).2.num 2).2)) := Lib.hid (fun j => by rw [hT]; rfl)
 have HT0 : Hid (T 0 = ([], R4)) := Lib.hid (by rw [hT]; rfl)
 obtain ⟨fb, hfb⟩ : ∃ fb, fb = (fi != 0) := ⟨_, rfl⟩
 have HP : Hid (iE Y = ⟨si, fb, (T n).1⟩) := Lib.hid (by rw [hT, hn, hR4, hsi, hfb, hfi]; rfl)
 have hneq : (fi != 0) = fb := hfb.symm
 rw [HP.out]
 simp only
 rw [HTL.out n]
 clear hYs Z1 Z2 Z3 Z4 hk0 hfi hsi hk4 hR1 hR2 hR3 hR4 hn hT hfb
 go_enter Tryz.func176, Tryz.ntmps176
 go_wp2_with fail
 refine (Ck Y _ HYS.out).mono ?_
 rintro e w1 ⟨g, rfl, hgl, hi1, hb1⟩
 have HR0 : Hid (aG w1 w.heap.size 160 #[.int .i64 0, .bool false, .slice none 0 0]) := Lib.hid ((aG.new w _ _).below hb1 (by simp))
 have HBW : Hid (Below w.heap.size w w1) := Lib.hid (((Below.refl _ _).alloc (Nat.le_refl _) _).trans (hb1.mono (by simp)))
 have HG : Hid (w.heap.size < g) := Lib.hid (by simp at hgl; omega)
 have HI1 := Lib.hid hi1
 clear hgl hi1 hb1
 go_wp2_with fail
 refine (HB1.out _ _ HI1.out).mono ?_
 rintro e w2 ⟨rfl, hi2, hg2⟩
 have HI2 := Lib.hid hi2
 have HG2 := Lib.hid hg2
 clear hi2 hg2
 go_wp2_with fail
 refine (HB2.out _ _ HI2.out).mono ?_
 rintro e w3 ⟨rfl, hi3, hg3⟩
 have HI3 := Lib.hid hi3
 have HG3 := Lib.hid hg3
 clear hi3 hg3
 go_wp2_with fail
 refine (HB3.out _ _ HI3.out).mono ?_
 rintro e w4 ⟨rfl, hi4, hg4⟩
 have HI4 := Lib.hid hi4
 have HG4 := Lib.hid hg4
 clear hi4 hg4
 go_wp2_with fail
 have hi5 : bP (w4.alloc (.cells #[.int .i64 si, .bool fb, .slice none 0 0] 160)) g R3 := HI4.out.far (Below.heap_alloc _ _ _ HI4.out.lt)
 refine (HB4.out _ _ hi5).mono ?_
 rintro e w6 ⟨rfl, hi6, hg6⟩
 have HG4' : Hid (g < w4.heap.size) := Lib.hid HI4.out.lt
 have HI6 := Lib.hid hi6
 have hgn : some g ≠ some w4.heap.size := fun e => by injection e with e; have := HG4'.out; omega
 have HH6 : Hid (aG w6 w4.heap.size 160 #[.int .i64 si, .bool fb, .slice none 0 0]) := Lib.hid (aV (aG.new w4 _ _) hg6 hgn)
 have HR6 : Hid (aG w6 w.heap.size 160 #[.int .i64 0, .bool false, .slice none 0 0]) := Lib.hid (by
  have hn : some g ≠ some w.heap.size := fun e => by injection e with e; have := HG.out; omega
  have b4 := aV (aV (aV HR0.out HG2.out hn) HG3.out hn) HG4.out hn
  exact aV (aG.below b4 ((Below.refl _ _).alloc (Nat.le_refl _) _) b4.lt) hg6 hn)
 have HB6 : Hid (Below w.heap.size w w6) := Lib.hid (by
  have hw : w.heap.size <= g := by have := HG.out; omega
  have k4 := aH (aH (aH HBW.out HG2.out hw) HG3.out hw) HG4.out hw
  exact aH (k4.alloc k4.size _) hg6 hw)
 have HW4 : Hid (w.heap.size < w4.heap.size) := Lib.hid (by
  have := HG.out
  have := HG4'.out
  omega)
 obtain ⟨h4, hh4⟩ : ∃ h4, h4 = w4.heap.size := ⟨_, rfl⟩
 rw [<- hh4] at HH6 HW4 hgn
 have HGN := Lib.hid hgn
 rw [<- hh4]
 clear hi5 hi6 hg6 HI1 HI2 HI3 HI4 HG2 HG3 HG4 HR0 HBW HB1 HB2 HB3 HB4 HG4' hh4 hgn
 go_wp2_with fail
 go_loopw [18] (fun i wr => ∃ (j : Nat) (v : Value), j <= n /\ i = .int .i64 j /\ bP wr g (T j).2 /\ aG wr h4 160 #[.int .i64 si, .bool fb, v] /\ wr.ownsRow w.heap.size 3 1 v j ((T j).1.map (Value.int .i64)) /\ v.ownBlock ≠ some g /\ v.ownBlock ≠ some h4 /\ v.ownBlock ≠ some w.heap.size /\ aG wr w.heap.size 160 #[.int .i64 0, .bool false, .slice none 0 0] /\ Below w.heap.size w wr) (fun i _ => n - (intOf i).toNat)
 case atStart => exact ⟨0, .slice none 0 0, Nat.zero_le _, rfl, by rw [HT0.out]; exact HI6.out, HH6.out, by rw [HT0.out]; exact World.ownsRow_nil _ _ _ _, by simp [Value.ownBlock], by simp [Value.ownBlock], by simp [Value.ownBlock], HR6.out, HB6.out⟩
 case round =>
  obtain ⟨j, v, hj, rfl, hi, hh, hrow, hvg, hvh, hvr, hr0, hb⟩ := hrel
  obtain ⟨pv, cv, rfl, -⟩ := kV hrow
  have HI := Lib.hid hi
  have HH := Lib.hid hh
  have HRW := Lib.hid hrow
  have HVG := Lib.hid (And.intro hvg (And.intro hvh hvr))
  have HR0 := Lib.hid hr0
  have HB := Lib.hid hb
  clear hi hh hrow hvg hvh hvr hr0 hb HI6 HH6 HR6 HB6
  by_cases hlt : j < n
  ·obtain ⟨x, hx⟩ : ∃ x, x = ((T j).2.num 2).1 := ⟨_, rfl⟩
   have HTK : Hid ((T (j + 1)).1.map (Value.int .i64) = (T j).1.map (Value.int .i64) ++ [.int .i64 x]) := Lib.hid (by rw [HTN.out j, List.map_append, hx]; rfl)
   have HCL : Hid (∀ W, bP W g (T j).2 -> Calls Tryz.prog 116 #[.pointer (some ⟨g, 0, none⟩)] W fun e w' => e = .returned (.int .i64 x) /\ bP w' g (T (j + 1)).2 /\ W.grownBy w' (some g)) := Lib.hid (fun W hi => by have := mY g _ W hi (Nat.le_trans (HTS.out j) (by omega)); rw [<- hx, show ((T j).2.num 2).2 = (T (j + 1)).2 by rw [HTN.out j]] at this; exact this)
   obtain ⟨s1, hs1⟩ : ∃ s : Rd, s = (T j).2 := ⟨_, rfl⟩
   obtain ⟨s2, hs2⟩ : ∃ s : Rd, s = (T (j + 1)).2 := ⟨_, rfl⟩
   rw [<- hs1, <- hs2] at HCL
   rw [<- hs1] at HI
   have HS2 := Lib.hid hs2
   have hjI : (j : Int) < (n : Int) := by omega
   have hj110 : j <= 110 := by omega
   clear hx hs1 hs2
   obtain ⟨old, hold⟩ : ∃ old, old = (T j).1.map (Value.int .i64) := ⟨_, rfl⟩
   rw [<- hold] at HRW HTK
   go_upto_region 6 with fail
   obtain ⟨i0, hi0, hz0, hz1, hz2⟩ := info_parts nQ
   refine jP 20 6 25 2 (PJ w g h4 si fb (.slice pv j cv) j old x s1 s2) (by kernel_rfl) (by kernel_rfl) rfl (by omega) (by kernel_rfl) rfl (by simp) ?h0 ?hops ?hrest
   case h0 => exact ⟨(fun h => by cases h), (fun h => by cases h), (fun h => by cases h), (fun h => by cases h), (fun h => by cases h), (fun h => by cases h), (fun h => by cases h), (fun h => by cases h), HI.out, HH.out, fun _ => cG HRW.out (fun _ _ => rfl), HB.out.drew, HR0.out⟩
   case hops =>
    intro o ho L f y w' hF hLo hJ hw hy
    have HJ := Lib.hid hJ
    clear hJ
    rcases (show o = 0 \/ o = 1 \/ o = 2 \/ o = 3 \/ o = 4 \/ o = 5 by omega) with rfl | rfl | rfl | rfl | rfl | rfl
    ·have t0 : y.tmps[4]?.getD undef = .pointer (some ⟨h4, 0, none⟩) := by rw [hF.2.2 4 (by omega)]; rfl
     clear hw hy hF
     refine aA (v := .pointer (some ⟨h4, 2, none⟩)) (w' := w') rfl rfl ?_ ⟨_, rfl, ?_⟩
     ·go_simp
     ·have k := HJ.out
      exact ⟨fun _ => rfl, k.f1, k.f2, k.f3, k.f4, k.f5, k.c4, k.c5, k.rd, k.hd, k.row, k.below, k.r0⟩
    ·have l0 : L 0 = true := hw 0 (of_decide_eq_true (by kernel_rfl))
     have t0 : y.tmps[20]?.getD undef = .pointer (some ⟨h4, 2, none⟩) := (hy 0 (by omega) l0).trans (HJ.out.f0 l0)
     have c2 := HJ.out.hd.cell 2
     simp at c2
     clear hw hy hF
     refine aA (v := .slice pv j cv) (w' := w') rfl rfl ?_ ⟨_, rfl, ?_⟩
     ·go_simp
     ·have k := HJ.out
      exact ⟨k.f0, fun _ => rfl, k.f2, k.f3, k.f4, k.f5, k.c4, k.c5, k.rd, k.hd, k.row, k.below, k.r0⟩
    ·have t0 : y.tmps[3]?.getD undef = .pointer (some ⟨g, 0, none⟩) := by rw [hF.2.2 3 (by omega)]; rfl
     clear hw hy hF
     refine aA (v := .pointer (some ⟨g, 0, none⟩)) (w' := w') rfl rfl ?_ ⟨_, rfl, ?_⟩
     ·go_simp
     ·have k := HJ.out
      exact ⟨k.f0, k.f1, fun _ => rfl, k.f3, k.f4, k.f5, k.c4, k.c5, k.rd, k.hd, k.row, k.below, k.r0⟩
    ·have l2 : L 2 = true := hw 2 (of_decide_eq_true (by kernel_rfl))
     have t0 : y.tmps[22]?.getD undef = .pointer (some ⟨g, 0, none⟩) := (hy 2 (by omega) l2).trans (HJ.out.f2 l2)
     have l4 : L 4 = false := by
      cases hl : L 4 with
      | false => rfl
      | true => rw [HJ.out.c4 hl] at hLo; cases hLo
     have l5 : L 5 = false := by
      cases hl : L 5 with
      | false => rfl
      | true => rw [HJ.out.c5 hl] at l4; cases l4
     have hrd := HJ.out.rd
     rw [hLo, if_neg (by decide)] at hrd
     clear hw hy hF
     refine aP (f := 116) (args := #[.pointer (some ⟨g, 0, none⟩)]) rfl rfl (by go_simp) ((HCL.out w' hrd).mono ?_)
     rintro e w'' ⟨rfl, hi2, hg2⟩
     have k := HJ.out
     refine ⟨_, rfl, _, rfl, ?_⟩
     have hgw : w.heap.size <= g := by have := HG.out; omega
     exact ⟨k.f0, k.f1, k.f2, fun _ => rfl, (fun h => by rw [show L 4 = true from h] at l4; cases l4), (fun h => by rw [show L 5 = true from h] at l5; cases l5), (fun h => by rw [show L 4 = true from h] at l4; cases l4), (fun h => by rw [show L 5 = true from h] at l5; cases l5), hi2, aV k.hd hg2 HGN.out, fun _ => pU (k.row l5) hg2 (fun q e => by injection e with e; subst e; exact HVG.out.1), aH k.below hg2 hgw, aV k.r0 hg2 (fun e => by injection e with e; have := HG.out; omega)⟩
    ·have l3 : L 3 = true := hw 3 (of_decide_eq_true (by kernel_rfl))
     have t0 : y.tmps[23]?.getD undef = .int .i64 x := (hy 3 (by omega) l3).trans (HJ.out.f3 l3)
     have l5 : L 5 = false := by
      cases hl : L 5 with
      | false => rfl
      | true => rw [HJ.out.c5 hl] at hLo; cases hLo
     clear hw hy hF
     refine aA (v := .slice (some ⟨w'.heap.size, 0, none⟩) 1 1) (w' := w'.alloc (.cells #[.int .i64 x] 3)) rfl rfl ?_ ⟨_, rfl, ?_⟩
     ·go_simp
     ·have k := HJ.out
      have hg1 : w'.grownBy (w'.alloc (.cells #[.int .i64 x] 3)) none := bH (aC _ _) _
      have e3 : (if (if 4 = 3 then true else L 3) = true then s2 else s1) = (if L 3 = true then s2 else s1) := rfl
      exact ⟨k.f0, k.f1, k.f2, k.f3, fun _ => ⟨_, rfl, aG.new _ _ _, by have := k.rd.lt; omega, by have := k.hd.lt; omega, fun e => by have := ((k.row l5).lt _ e).2; omega⟩, (fun h => by rw [show L 5 = true from h] at l5; cases l5), fun _ => l3, (fun h => by rw [show L 5 = true from h] at l5; cases l5), aV k.rd hg1 (by simp), aV k.hd hg1 (by simp), fun _ => pU (k.row l5) hg1 (fun q e => by cases e), k.below.alloc k.below.size _, aV k.r0 hg1 (by simp)⟩
    ·have l4 : L 4 = true := hw 4 (of_decide_eq_true (by kernel_rfl))
     have l1 : L 1 = true := hw 1 (of_decide_eq_true (by kernel_rfl))
     have k := HJ.out
     have l3 := k.c4 l4
     obtain ⟨b, hb4, hbk, hbg, hbh, hbv⟩ := k.f4 l4
     have t1 : y.tmps[21]?.getD undef = .slice pv j cv := (hy 1 (by omega) l1).trans (k.f1 l1)
     have t2 : y.tmps[24]?.getD undef = .slice (some ⟨b, 0, none⟩) 1 1 := (hy 4 (by omega) l4).trans hb4
     obtain ⟨gd, cap, Wf, hrun, hown, hgrow, hor, hlt'⟩ := run_append_lies (P := Tryz.prog) w' 33 33 w.heap.size 3 i0 (.int .i64 0) 1 8 Tryz.underlying33 hi0 hz0 hz1 hz2 rfl (by omega)
      (.slice pv j cv) j old (k.row hLo) ⟨b, 0, none⟩ 1 1 [.int .i64 x] rfl (fun i u hu => by
       match i, hu with
       | 0, hu =>
         injection hu with hu
         subst hu
         rw [Go.WideShapes.add_plain]
         exact hbk.cell 0) (by intro u hu; have := List.mem_singleton.1 hu; subst this; rfl) (by omega) (by unfold maxLen; omega) (by omega) k.below.size _ rfl
     refine aA (v := .slice (some ⟨gd, 0, none⟩) (j + 1) cap) (w' := Wf) rfl rfl (oS rfl (by simpa [Act.eval] using t1) (by simpa [Act.eval] using t2) hrun) ⟨_, rfl, ?_⟩
     have hne : ∀ q, q < w'.heap.size -> (Value.slice pv j cv).ownBlock ≠ some q -> gd ≠ q := by
      intro q hq hvq e
      subst e
      rcases hor with h1 | h1
      ·exact hvq h1
      ·omega
     have n1 : gd ≠ g := hne g k.rd.lt HVG.out.1
     have n2 : gd ≠ h4 := hne h4 k.hd.lt HVG.out.2.1
     have n3 : gd ≠ w.heap.size := hne w.heap.size k.r0.lt HVG.out.2.2
     exact ⟨k.f0, k.f1, k.f2, k.f3, fun _ => ⟨b, hb4, aV hbk hgrow hbv, hbg, hbh, hbv⟩, fun _ => ⟨gd, cap, rfl, hown, n1, n2, n3⟩, fun _ => l3, fun _ => l4, aV k.rd hgrow HVG.out.1, aV k.hd hgrow HVG.out.2.1, (fun h => by cases h), k.below.grown hgrow k.below.size (fun q e => ((k.row hLo).lt q e).1), aV k.r0 hgrow HVG.out.2.2⟩
   case hrest =>
    intro L f w' hL hJ
    have k := hJ
    obtain ⟨gd, cap, hf5, hown, n1, n2, n3⟩ := k.f5 (hL 5 (by omega))
    have HLL := Lib.hid (hL 3 (by omega))
    have HK := Lib.hid hJ
    have HOWN := Lib.hid hown
    have c2 := k.hd.cell 2
    have f2 := k.hd.frozen 2
    simp at c2
    clear hL hJ k hown
    rw [show List.range' 6 2 = [6, 7] from rfl]
    simp only [iC, List.range, List.range.loop, List.foldl, Nat.reduceAdd, List.setIfInBounds_toArray, List.set_cons_succ, List.set_cons_zero, hf5]
    clear hf5
    rw [wpOps_cons]
    refine aA (v := .pointer (some ⟨h4, 2, none⟩)) (w' := w') rfl rfl (by go_simp) ?_
    rw [wpOps_cons]
    refine eC (w' := w'.setCell ⟨h4, 2, none⟩ (.slice (some ⟨gd, 0, none⟩) (j + 1) cap)) rfl rfl (by simp only [Act.put, List.setIfInBounds_toArray]; go_simp) ?_
    simp only [wpOps, Act.put, List.setIfInBounds_toArray]
    clear c2 f2
    have hlen : j + 1 <= n := hlt
    have hlen2 : (j : Int) + 1 <= (n : Int) := by omega
    have HREL : Hid (∃ (j' : Nat) (v : Value), j' <= n /\ Value.int .i64 ((j : Int) + 1) = .int .i64 j' /\ bP (w'.setCell ⟨h4, 2, none⟩ (.slice (some ⟨gd, 0, none⟩) (j + 1) cap)) g (T j').2 /\ aG (w'.setCell ⟨h4, 2, none⟩ (.slice (some ⟨gd, 0, none⟩) (j + 1) cap)) h4 160 #[.int .i64 si, .bool fb, v] /\ (w'.setCell ⟨h4, 2, none⟩ (.slice (some ⟨gd, 0, none⟩) (j + 1) cap)).ownsRow w.heap.size 3 1 v j' ((T j').1.map (Value.int .i64)) /\ v.ownBlock ≠ some g /\ v.ownBlock ≠ some h4 /\ v.ownBlock ≠ some w.heap.size /\ aG (w'.setCell ⟨h4, 2, none⟩ (.slice (some ⟨gd, 0, none⟩) (j + 1) cap)) w.heap.size 160 #[.int .i64 0, .bool false, .slice none 0 0] /\ Below w.heap.size w (w'.setCell ⟨h4, 2, none⟩ (.slice (some ⟨gd, 0, none⟩) (j + 1) cap))) := Lib.hid (by
     have k := HK.out
     have hgh : h4 ≠ g := fun e => HGN.out (by rw [e])
     have l3 : L 3 = true := HLL.out
     have hrd := k.rd
     rw [l3, if_pos rfl, HS2.out] at hrd
     have hd := k.hd.put 2 (.slice (some ⟨gd, 0, none⟩) (j + 1) cap)
     have hw4 := HW4.out
     refine ⟨j + 1, .slice (some ⟨gd, 0, none⟩) (j + 1) cap, hlen, by simp, aG.far hrd (fun e => hgh e.symm) _, hd, ?_, by simpa [Value.ownBlock] using n1, by simpa [Value.ownBlock] using n2, ?_, ?_, k.below.setCell (by show w.heap.size <= h4; omega) _⟩
     ·rw [HTK.out]
      exact cG HOWN.out (fun q e => Below.heap_setCell _ _ _ _ (fun e2 => by cases e; exact n2 e2))
     ·simpa [Value.ownBlock] using n3
     ·exact aG.far k.r0 (fun e => by have e : w.heap.size = h4 := e; omega) _)
    clear HK HOWN
    go_wp2_with fail
    go_roundw
    case rel => exact HREL.out
    case measure => simp [intOf]; omega
  ·obtain rfl : j = n := by omega
   have c0 := HH.out.cell 0
   have c1 := HH.out.cell 1
   have c2 := HH.out.cell 2
   have r0 := HR0.out.cell 0
   have r1 := HR0.out.cell 1
   have r2 := HR0.out.cell 2
   have f0 := HR0.out.frozen 0
   have f1 := HR0.out.frozen 1
   have f2 := HR0.out.frozen 2
   simp at c0 c1 c2 r0 r1 r2
   go_wp2_with fail
   have b3 := ((HR0.out.put 0 (.int .i64 si)).put 1 (.bool fb)).put 2 (.slice pv j cv)
   refine dV rfl rfl (eY b3) rfl ?_
   refine ⟨pv, cv, by unfold HD.val; simp only; rw [HTL.out], cG HRW.out (fun q e => ?_), by omega, ((HB.out.setCell (Nat.le_refl _) _).setCell (Nat.le_refl _) _).setCell (Nat.le_refl _) _⟩
   have hne : q ≠ w.heap.size := fun e2 => HVG.out.2.2 (by rw [<- e2]; exact e)
   exact (Below.heap_setCell _ _ _ _ (fun e => hne e)).trans ((Below.heap_setCell _ _ _ _ (fun e => hne e)).trans (Below.heap_setCell _ _ _ _ (fun e => hne e)))
open Go.Shelf
def zY : Go.Shelf.Ren := ⟨fun | 160 => 175 | 232 => 192 | 231 => 191 | 227 => 193 | 234 => 195 | 233 => 194 | 236 => 197 | 235 => 196 | 228 => 210 | 271 => 213 | 151 => 212 | 197 => 211 | 120 => 218 | 152 => 217 | 260 => 216 | 137 => 228 | 119 => 229 | 224 => 230 | 225 => 231 | 217 => 235 | 266 => 237 | n => n, fun | 9 => 9 | 4 => 4 | 3 => 3 | 5 => 5 | 117 => 251 | 116 => 250 | 0 => 0 | 124 => 254 | 21 => 21 | 105 => 266 | 46 => 137 | 119 => 277 | 139 => 280 | 138 => 279 | n => n, fun | 3 => 1 | 4 => 2 | n => n⟩
theorem Pi : Go.Proofs.Lays.n160 Tryz.prog zY := {
 mixed := by kernel_rfl
 f119 := Tryz.func229.trans (congrArg some (by kernel_rfl))
 f120 := Tryz.func218.trans (congrArg some (by kernel_rfl))
 f137 := Tryz.func228.trans (congrArg some (by kernel_rfl))
 f151 := Tryz.func212.trans (congrArg some (by kernel_rfl))
 f152 := Tryz.func217.trans (congrArg some (by kernel_rfl))
 f160 := Tryz.func175.trans (congrArg some (by kernel_rfl))
 f197 := Tryz.func211.trans (congrArg some (by kernel_rfl))
 f217 := Tryz.func235.trans (congrArg some (by kernel_rfl))
 f224 := Tryz.func230.trans (congrArg some (by kernel_rfl))
 f225 := Tryz.func231.trans (congrArg some (by kernel_rfl))
 f227 := Tryz.func193.trans (congrArg some (by kernel_rfl))
 f228 := Tryz.func210.trans (congrArg some (by kernel_rfl))
 f231 := Tryz.func191.trans (congrArg some (by kernel_rfl))
 f232 := Tryz.func192.trans (congrArg some (by kernel_rfl))
 f233 := Tryz.func194.trans (congrArg some (by kernel_rfl))
 f234 := Tryz.func195.trans (congrArg some (by kernel_rfl))
 f235 := Tryz.func196.trans (congrArg some (by kernel_rfl))
 f236 := Tryz.func197.trans (congrArg some (by kernel_rfl))
 f260 := Tryz.func216.trans (congrArg some (by kernel_rfl))
 f266 := Tryz.func237.trans (congrArg some (by kernel_rfl))
 f271 := Tryz.func213.trans (congrArg some (by kernel_rfl))
 t0 := Tryz.underlying0
 a0 := Tryz.isAgg0
 z0 := Tryz.sizeOf0
 v0 := Tryz.zeroValue0
 t3 := Tryz.underlying3
 a3 := Tryz.isAgg3
 z3 := Tryz.sizeOf3
 v3 := Tryz.zeroValue3
 t4 := Tryz.underlying4
 a4 := Tryz.isAgg4
 z4 := Tryz.sizeOf4
 v4 := Tryz.zeroValue4
 t5 := Tryz.underlying5
 a5 := Tryz.isAgg5
 z5 := Tryz.sizeOf5
 v5 := Tryz.zeroValue5
 t9 := Tryz.underlying9
 a9 := Tryz.isAgg9
 z9 := Tryz.sizeOf9
 v9 := Tryz.zeroValue9
 t21 := Tryz.underlying21
 a21 := Tryz.isAgg21
 z21 := Tryz.sizeOf21
 v21 := Tryz.zeroValue21
 t46 := Tryz.underlying137
 a46 := Tryz.isAgg137
 z46 := Tryz.sizeOf137
 v46 := Tryz.zeroValue137
 t105 := Tryz.underlying266
 a105 := Tryz.isAgg266
 z105 := Tryz.sizeOf266
 v105 := Tryz.zeroValue266
 t116 := Tryz.underlying250
 a116 := Tryz.isAgg250
 z116 := Tryz.sizeOf250
 t117 := Tryz.underlying251
 a117 := Tryz.isAgg251
 z117 := Tryz.sizeOf251
 v117 := Tryz.zeroValue251
 t119 := Tryz.underlying277
 a119 := Tryz.isAgg277
 z119 := Tryz.sizeOf277
 t124 := Tryz.underlying254
 a124 := Tryz.isAgg254
 z124 := Tryz.sizeOf254
 v124 := Tryz.zeroValue254
 t138 := Tryz.underlying279
 a138 := Tryz.isAgg279
 z138 := Tryz.sizeOf279
 v138 := Tryz.zeroValue279
 t139 := Tryz.underlying280
 a139 := Tryz.isAgg280
 z139 := Tryz.sizeOf280
 v139 := Tryz.zeroValue280
 g3 := by kernel_rfl
 g4 := by kernel_rfl }
open Go.RowKit in
theorem kX (s : ByteArray) (c : UInt8) (hc : c.toNat < 128) (w : World) (hs : s.size <= 9223372036854775807) :
  Calls Tryz.prog 175 #[.string s, .string ⟨#[c]⟩] w fun e w' => e = .returned (.string ⟨(Lib.trimB s.data.toList c).toArray⟩) /\ (w' = w \/ w' = w.drew) := Any.strings_Trim_one Pi s c hc w hs
def vT : Go.Shelf.Ren := ⟨fun | 20 => 204 | n => n, fun | 22 => 33 | 3 => 3 | 4 => 4 | 0 => 0 | n => n, fun | n => n⟩
theorem vE : Go.Proofs.Lays2.n20 Tryz.prog vT := {
 mixed := by kernel_rfl
 f20 := Tryz.func204.trans (congrArg some (by kernel_rfl))
 t0 := Tryz.underlying0
 a0 := Tryz.isAgg0
 z0 := Tryz.sizeOf0
 v0 := Tryz.zeroValue0
 t3 := Tryz.underlying3
 a3 := Tryz.isAgg3
 z3 := Tryz.sizeOf3
 v3 := Tryz.zeroValue3
 t4 := Tryz.underlying4
 a4 := Tryz.isAgg4
 z4 := Tryz.sizeOf4
 v4 := Tryz.zeroValue4
 t22 := Tryz.underlying33
 a22 := Tryz.isAgg33
 z22 := Tryz.sizeOf33
 v22 := Tryz.zeroValue33
 i3 := by kernel_rfl }
open Go.RowKit Go.Lib Go.Sort in
theorem kY (a : Option Addr) (cap : Nat) (w : World) :
  Calls Tryz.prog 204 #[.slice a 0 cap] w fun e w' => e = .returned (.slice a 0 cap) /\ w' = w := Any.slices_Compact_int_empty vE a cap w
def qZ : Go.Shelf.Ren := ⟨fun | 5 => 203 | 8 => 110 | 7 => 215 | 19 => 163 | 20 => 164 | 10 => 219 | 11 => 220 | 12 => 221 | 13 => 222 | 14 => 223 | 15 => 224 | 16 => 225 | 17 => 226 | 18 => 227 | 30 => 232 | 31 => 185 | 32 => 186 | 33 => 233 | 34 => 234 | 35 => 111 | 40 => 236 | n => n, fun | 23 => 33 | 25 => 3 | 3 => 3 | 32 => 137 | 22 => 33 | 0 => 0 | 44 => 132 | 46 => 91 | 4 => 4 | 36 => 214 | 35 => 213 | 41 => 218 | 5 => 5 | 9 => 9 | 53 => 240 | 57 => 244 | 63 => 262 | 64 => 263 | n => n, fun | n => n⟩
theorem pA : Go.Proofs.SlLaysM.n5 Tryz.prog qZ := {
 mixed := by kernel_rfl
 f5 := ⟨Tryz.f203.name, by decide, Tryz.func203.trans (congrArg some (by kernel_rfl))⟩
 f7 := ⟨Tryz.f215.name, by decide, Tryz.func215.trans (congrArg some (by kernel_rfl))⟩
 f8 := Tryz.func110.trans (congrArg some (by kernel_rfl))
 f10 := ⟨Tryz.f219.name, by decide, Tryz.func219.trans (congrArg some (by kernel_rfl))⟩
 f11 := ⟨Tryz.f220.name, by decide, Tryz.func220.trans (congrArg some (by kernel_rfl))⟩
 f12 := ⟨Tryz.f221.name, by decide, Tryz.func221.trans (congrArg some (by kernel_rfl))⟩
 f13 := ⟨Tryz.f222.name, by decide, Tryz.func222.trans (congrArg some (by kernel_rfl))⟩
 f14 := ⟨Tryz.f223.name, by decide, Tryz.func223.trans (congrArg some (by kernel_rfl))⟩
 f15 := ⟨Tryz.f224.name, by decide, Tryz.func224.trans (congrArg some (by kernel_rfl))⟩
 f16 := ⟨Tryz.f225.name, by decide, Tryz.func225.trans (congrArg some (by kernel_rfl))⟩
 f17 := ⟨Tryz.f226.name, by decide, Tryz.func226.trans (congrArg some (by kernel_rfl))⟩
 f18 := ⟨Tryz.f227.name, by decide, Tryz.func227.trans (congrArg some (by kernel_rfl))⟩
 f19 := Tryz.func163.trans (congrArg some (by kernel_rfl))
 f20 := Tryz.func164.trans (congrArg some (by kernel_rfl))
 f30 := ⟨Tryz.f232.name, by decide, Tryz.func232.trans (congrArg some (by kernel_rfl))⟩
 f31 := Tryz.func185.trans (congrArg some (by kernel_rfl))
 f32 := Tryz.func186.trans (congrArg some (by kernel_rfl))
 f33 := ⟨Tryz.f233.name, by decide, Tryz.func233.trans (congrArg some (by kernel_rfl))⟩
 f34 := ⟨Tryz.f234.name, by decide, Tryz.func234.trans (congrArg some (by kernel_rfl))⟩
 f35 := ⟨Tryz.f111.name, by decide, Tryz.func111.trans (congrArg some (by kernel_rfl))⟩
 f40 := ⟨Tryz.f236.name, by decide, Tryz.func236.trans (congrArg some (by kernel_rfl))⟩
 t0 := Tryz.underlying0
 a0 := Tryz.isAgg0
 z0 := Tryz.sizeOf0
 v0 := Tryz.zeroValue0
 t3 := Tryz.underlying3
 a3 := Tryz.isAgg3
 z3 := Tryz.sizeOf3
 v3 := Tryz.zeroValue3
 t4 := Tryz.underlying4
 a4 := Tryz.isAgg4
 z4 := Tryz.sizeOf4
 v4 := Tryz.zeroValue4
 t5 := Tryz.underlying5
 a5 := Tryz.isAgg5
 z5 := Tryz.sizeOf5
 v5 := Tryz.zeroValue5
 t9 := Tryz.underlying9
 a9 := Tryz.isAgg9
 z9 := Tryz.sizeOf9
 v9 := Tryz.zeroValue9
 t22 := Tryz.underlying33
 a22 := Tryz.isAgg33
 z22 := Tryz.sizeOf33
 v22 := Tryz.zeroValue33
 t23 := Tryz.underlying33
 a23 := Tryz.isAgg33
 z23 := Tryz.sizeOf33
 v23 := Tryz.zeroValue33
 t25 := Tryz.underlying3
 a25 := Tryz.isAgg3
 z25 := Tryz.sizeOf3
 v25 := Tryz.zeroValue3
 t32 := Tryz.underlying137
 a32 := Tryz.isAgg137
 z32 := Tryz.sizeOf137
 v32 := Tryz.zeroValue137
 t35 := Tryz.underlying213
 a35 := Tryz.isAgg213
 z35 := Tryz.sizeOf213
 v35 := Tryz.zeroValue213
 t36 := Tryz.underlying214
 a36 := Tryz.isAgg214
 z36 := Tryz.sizeOf214
 v36 := Tryz.zeroValue214
 t41 := Tryz.underlying218
 a41 := Tryz.isAgg218
 z41 := Tryz.sizeOf218
 v41 := Tryz.zeroValue218
 t44 := Tryz.underlying132
 a44 := Tryz.isAgg132
 z44 := Tryz.sizeOf132
 v44 := Tryz.zeroValue132
 t46 := Tryz.underlying91
 a46 := Tryz.isAgg91
 z46 := Tryz.sizeOf91
 v46 := Tryz.zeroValue91
 t53 := Tryz.underlying240
 a53 := Tryz.isAgg240
 z53 := Tryz.sizeOf240
 v53 := Tryz.zeroValue240
 t57 := Tryz.underlying244
 a57 := Tryz.isAgg244
 z57 := Tryz.sizeOf244
 v57 := Tryz.zeroValue244
 t63 := Tryz.underlying262
 a63 := Tryz.isAgg262
 z63 := Tryz.sizeOf262
 v63 := Tryz.zeroValue262
 t64 := Tryz.underlying263
 a64 := Tryz.isAgg263
 z64 := Tryz.sizeOf263
 v64 := Tryz.zeroValue263 }
open Go.Sort Go.RowKit in
theorem sP (blk off cap : Nat) (zs : List Int) (w : World) (hH : Holds (Value.int .i64) w blk off zs.toArray) (hblk : blk < w.heap.size) (hsz : zs.length < 4611686018427387904) :
  Calls Tryz.prog 203 #[.slice (some ⟨blk, off, none⟩) zs.length cap] w fun e w' =>
   e = .returned (.tuple #[]) /\ ∃ n os, w' = grow (putRow (Value.int .i64) (Sort.ahead w n) blk off (zs.mergeSort fun x y => decide (x <= y)).toArray) os := AnyM.slices_Sort_int pA blk off cap zs w hH hblk hsz
open Go.RowKit Go.Sort in
theorem nR (p : Option Addr) (cap : Nat) (w : World) :
  Calls Tryz.prog 203 #[.slice p 0 cap] w fun e w' => e = .returned (.tuple #[]) /\ w' = w := AnyM.slices_Sort_int_none pA p cap w
end Go.Proofs.YtingkbeifohihaaGreatDoor
